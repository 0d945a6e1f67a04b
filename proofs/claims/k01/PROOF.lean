import PyProof.Rows.All
import Wide.All
import OpenK.AllK
import Wide.FinOn
import HandS.ForMost
import HandS.IsInst
import HandS.Style
import HandS.Evl
import HandS.Defaults
import HandS.Walk
import HandS.Zip
import HandS.ClsMeth
import HandS.Deep
import HandS.ListEq
import HandS.DeepEq
import KE.KFmtOwn
import KE.KDictList
import HandS.FStr
import PySem.Challenge.RW_pooledeyes_k01_names_and_numbers_judged
set_option Elab.async false
set_option linter.all false
set_option maxRecDepth 100000
set_option maxHeartbeats 4000000
/-! My own short words: a def of the text with its promise, calls of it. -/
namespace Eyes
open PySem PySem.Spec PyProof.Rows L2
def FnAt (K : PySem.W.Frag) (mg : Str → Option Value) (x : Str) (st : Stmt) (ps : List Str) : Prop :=
  ∃ (f : Addr) (fd : FuncData), Fun K x x st f fd ∧ Binds K fd ps [] ∧ mg x = some (.ref f)
def Pr (P : Program) (w : World) (K : PySem.W.Frag) (mg : Str → Option Value) (base : Heap) (x : Str) (st : Stmt) (ps : List Str) (k : Nat) (sp : Sp) : Prop :=
  ∃ (f : Addr) (fd : FuncData), mg x = some (.ref f) ∧ Fun K x x st f fd ∧ Binds K fd ps [] ∧ FnOk P w K mg base CX0 k f fd ps sp
def InitAt (K : PySem.W.Frag) (C : Addr) (qual : Str) (st : Stmt) (ps : List Str) : Prop :=
  ∃ (f : Addr) (fd : FuncData), Mk K C f ∧ Fun K "__init__" qual st f fd ∧ Binds K fd ps []
def PrI (P : Program) (w : World) (K : PySem.W.Frag) (mg : Str → Option Value) (base : Heap) (C : Addr) (ps : List Str) (k : Nat) (sp : Sp) : Prop :=
  ∃ (f : Addr) (fd : FuncData), Mk K C f ∧ Binds K fd ps [] ∧ FnOk P w K mg base CX0 k f fd ps sp
def MethAt (K : PySem.W.Frag) (C : Addr) (m qual : Str) (st : Stmt) (ps : List Str) : Prop :=
  ∃ (f : Addr) (fd : FuncData), Meth K C m f ∧ Fun K m qual st f fd ∧ Binds K fd ps []
def PrM (P : Program) (w : World) (K : PySem.W.Frag) (mg : Str → Option Value) (base : Heap) (C : Addr) (m : Str) (ps : List Str) (k : Nat) (sp : Sp) : Prop :=
  ∃ (f : Addr) (fd : FuncData), Meth K C m f ∧ Binds K fd ps [] ∧ FnOk P w K mg base CX0 k f fd ps sp
theorem kit_own {K : PySem.W.Frag} {C : Addr} {T : String} (h : PySem.W.subIn K (.ref C) (.type T) = some false) (m : PySem.W.kitMeta T = true) : PySem.W.kitOne K (.ref C) (.type T) = some false := by
  unfold PySem.W.kitOne
  have e : (Value.ref C == Value.type T) = false := rfl
  rw [e]
  show (if PySem.W.kitMeta T = true then PySem.W.subIn K (.ref C) (.type T) else none) = some false
  rw [if_pos m]
  exact h
structure ClsY (K : PySem.W.Frag) (C : Addr) : Prop where
  ty1 : PySem.W.findIn K (.ref C) "__class__" = some (some (.builtin "object.__class__"))
  ty2 : PySem.W.specialIn K (.builtin "object.__class__") "__get__" = some (some (.builtin "getset_descriptor.__get__"))
  ty3 : PySem.W.takesIn K (.builtin "object.__class__") = some true
  ty4 : PySem.W.mroIn K C (.type "object") = some true
  k_str : PySem.W.kitOne K (.ref C) (.type "str") = some false
  k_int : PySem.W.kitOne K (.ref C) (.type "int") = some false
  k_bool : PySem.W.kitOne K (.ref C) (.type "bool") = some false
  k_list : PySem.W.kitOne K (.ref C) (.type "list") = some false
  k_tuple : PySem.W.kitOne K (.ref C) (.type "tuple") = some false
  k_dict : PySem.W.kitOne K (.ref C) (.type "dict") = some false
section
variable {P : Program} {w : World} {K : PySem.W.Frag} {mg : Str → Option Value} {base : Heap}
abbrev BindH (x qual : Str) (st : Stmt) (ps : List Str) : Prop := ∀ (kV doc pm : Value) (an : Option Addr) (cdv ct : Value) (us : List Value), us.length = ps.length → bindArgs (PySem.W.fnOf x qual (defArgs st) (defBody st) (defScope st) .none kV doc pm an cdv ct) ⟨us, []⟩ = pure (ps.zip us)
theorem fnAt_mk {h : Heap} (X : K.In h) (G : h.Ns mainGlobals mg) {x : Str} {st : Stmt} {ps : List Str} {f : Addr} {oc : Value} {od an : Option Addr} {osl : Array (Option Value)} {kV doc pm cdv ct : Value} (a : PySem.W.nsIn K mainGlobals x = some (some (.ref f)))
    (l : K.lookup f = some ⟨oc, od, .func (PySem.W.fnOf x x (defArgs st) (defBody st) (defScope st) .none kV doc pm an cdv ct), osl⟩) (c : PySem.W.codeIn K cdv x = true) (k : PySem.W.keepIn K (.ref f) = true) (hb : BindH x x st ps) : FnAt K mg x st ps :=
  ⟨f, _, fun_mk l c k, (fun_mk l c k).binds hb, PySem.W.mg_of X G a⟩
theorem initAt_mk {C : Addr} {qual : Str} {st : Stmt} {ps : List Str} {f : Addr} {oc : Value} {od an : Option Addr} {osl : Array (Option Value)} {kV doc pm cdv ct : Value} (mk : PySem.W.makesIn K C = true) (kc : PySem.W.keepIn K (.ref C) = true)
    (a : PySem.W.findIn K (.ref C) "__init__" = some (some (.ref f))) (i : PySem.W.isFn K (.ref f) = true) (l : K.lookup f = some ⟨oc, od, .func (PySem.W.fnOf "__init__" qual (defArgs st) (defBody st) (defScope st) .none kV doc pm an cdv ct), osl⟩)
    (c : PySem.W.codeIn K cdv qual = true) (k : PySem.W.keepIn K (.ref f) = true) (hb : BindH "__init__" qual st ps) : InitAt K C qual st ps :=
  ⟨f, _, ⟨mk, a, i, kc⟩, fun_mk l c k, (fun_mk l c k).binds hb⟩
theorem methAt_mk {C : Addr} {m qual : Str} {st : Stmt} {ps : List Str} {f : Addr} {oc : Value} {od an : Option Addr} {osl : Array (Option Value)} {kV doc pm cdv ct : Value}
    (a : PySem.W.findIn K (.ref C) m = some (some (.ref f))) (i : PySem.W.isFn K (.ref f) = true) (l : K.lookup f = some ⟨oc, od, .func (PySem.W.fnOf m qual (defArgs st) (defBody st) (defScope st) .none kV doc pm an cdv ct), osl⟩)
    (c : PySem.W.codeIn K cdv qual = true) (k : PySem.W.keepIn K (.ref f) = true) (hb : BindH m qual st ps) : MethAt K C m qual st ps :=
  ⟨f, _, ⟨a, i, k⟩, fun_mk l c k, (fun_mk l c k).binds hb⟩
theorem pr_mk {x : Str} {st : Stmt} {N ps : List Str} {k : Nat} {sp : Sp} (A : FnAt K mg x st ps) (S : FnScope N ps (defScope st)) (len : ∀ vs H Q E, sp vs H Q E → vs.length = ps.length)
    (hbody : ∀ (f : Addr) (cdv : Value) (A : Around) (outer : List Env) (s : Shared) (H : Hp) (vs : List V) (Q : VK) (E : XK), Room k (A.deeper (envOfC x (defScope st) s.heap.objs.size f cdv)) → sp vs H Q E →
      ∃ t, PSs (cxOf CX0 P w K mg base N x (defScope st) f cdv A outer s H E).nox (defBody st) t ∧ t { nx := fun _ H' => Q .non H', rt := Q } (start N vs) H) : Pr P w K mg base x st ps (k + 1) sp := by
  obtain ⟨f, fd, F, hb, hm⟩ := A
  exact ⟨f, fd, hm, F, hb, F.ok S len fun cdv A outer s H vs Q E hr h => hbody f cdv A outer s H vs Q E hr h⟩
theorem pri_mk {C : Addr} {qual : Str} {st : Stmt} {N ps : List Str} {k : Nat} {sp : Sp} (A : InitAt K C qual st ps) (S : FnScope N ps (defScope st)) (len : ∀ vs H Q E, sp vs H Q E → vs.length = ps.length)
    (hbody : ∀ (f : Addr) (cdv : Value) (A : Around) (outer : List Env) (s : Shared) (H : Hp) (vs : List V) (Q : VK) (E : XK), Room k (A.deeper (envOfC qual (defScope st) s.heap.objs.size f cdv)) → sp vs H Q E →
      ∃ t, PSs (cxOf CX0 P w K mg base N qual (defScope st) f cdv A outer s H E).nox (defBody st) t ∧ t { nx := fun _ H' => Q .non H', rt := Q } (start N vs) H) : PrI P w K mg base C ps (k + 1) sp := by
  obtain ⟨f, fd, hm, F, hb⟩ := A
  exact ⟨f, fd, hm, hb, F.ok S len fun cdv A outer s H vs Q E hr h => hbody f cdv A outer s H vs Q E hr h⟩
theorem prm_mk {C : Addr} {m qual : Str} {st : Stmt} {N ps : List Str} {k : Nat} {sp : Sp} (A : MethAt K C m qual st ps) (S : FnScope N ps (defScope st)) (len : ∀ vs H Q E, sp vs H Q E → vs.length = ps.length)
    (hbody : ∀ (f : Addr) (cdv : Value) (A : Around) (outer : List Env) (s : Shared) (H : Hp) (vs : List V) (Q : VK) (E : XK), Room k (A.deeper (envOfC qual (defScope st) s.heap.objs.size f cdv)) → sp vs H Q E →
      ∃ t, PSs (cxOf CX0 P w K mg base N qual (defScope st) f cdv A outer s H E).nox (defBody st) t ∧ t { nx := fun _ H' => Q .non H', rt := Q } (start N vs) H) : PrM P w K mg base C m ps (k + 1) sp := by
  obtain ⟨f, fd, hm, F, hb⟩ := A
  exact ⟨f, fd, hm, hb, F.ok S len fun cdv A outer s H vs Q E hr h => hbody f cdv A outer s H vs Q E hr h⟩
end
def pick {α : Type} (is : List Nat) (xs : List α) : List α := is.filterMap fun i => xs[i]?
theorem pick_vals {vs : List V} {us : List Value} (r : Vals vs us) : ∀ is : List Nat, Vals (pick is vs) (pick is us)
  | [] => .nil
  | i :: is => by
    unfold pick
    rw [List.filterMap_cons, List.filterMap_cons]
    cases h : vs[i]? with
    | none =>
      rw [r.none_of h]
      exact pick_vals r is
    | some v =>
      obtain ⟨u, hu, rv⟩ := r.get h
      rw [hu]
      exact .cons rv (pick_vals r is)
section
variable {X : Cx} {x : Str} {st : Stmt} {ps : List Str} {sp : Sp} {e : Expr} {es : List Expr} {kws : List Keyword} {p pos : Pos} {t tk : TA}
theorem pcall {j k : Nat} (G : Pr X.prog X.w X.K X.mg X.base x st ps j sp) (hr : Room k X.A) (ha : PA X (e :: es) t) (hj : j ≤ k := by first | decide | omega) (hg : Gl X x := by rfl)
    (hdb : (x == ("__debug__" : Str)) = false := by decide) (he : starEach (e :: es) X.env = (false, eval e X.env) :: starEach es X.env := by rfl) (hpl : (backTo pos (starEach es X.env)).any (·.1) = false := by rfl) :
    PE X (.Call (.Name x p) (e :: es) [] pos) (tCall sp [] (fun _ _ _ => False) t) := by
  obtain ⟨f, fd, hm, F0, hb, F⟩ := G
  exact pe_call F (hr.mono hj) hg hm F0.kp hb .nil (fun _ _ _ _ _ _ _ h => h.elim) ha hdb he hpl
theorem pcall0 {j k : Nat} (G : Pr X.prog X.w X.K X.mg X.base x st ps j sp) (hr : Room k X.A) (hj : j ≤ k := by first | decide | omega) (hg : Gl X x := by rfl)
    (hdb : (x == ("__debug__" : Str)) = false := by decide) :
    PE X (.Call (.Name x p) [] [] pos) (tCall sp [] (fun _ _ _ => False) tNil) := by
  obtain ⟨f, fd, hm, F0, hb, F⟩ := G
  exact pe_call0 F (hr.mono hj) hg hm F0.kp hb .nil (fun _ _ _ _ _ _ _ h => h.elim) hdb
def KwOk (x : Str) (st : Stmt) (ps : List Str) (n : Nat) (ks : List Str) (is : List Nat) : Prop :=
  ∀ (kV doc pm : Value) (an : Option Addr) (cdv ct : Value) (us ws : List Value), us.length = n → ws.length = ks.length → bindArgs (PySem.W.fnOf x x (defArgs st) (defBody st) (defScope st) .none kV doc pm an cdv ct) ⟨us, ks.zip ws⟩ = pure (ps.zip (pick is (us ++ ws)))
theorem kbn {K : PySem.W.Frag} {f : Addr} {fd : FuncData} {n : Nat} {ks : List Str} {is : List Nat} (F : Fun K x x st f fd) (h : KwOk x st ps n ks is) : KBn K fd ps n ks (fun us ws => pick is (us ++ ws)) (fun vs zs => pick is (vs ++ zs)) := by
  obtain ⟨oc, od, kV, doc, pm, an, cdv, ct, osl, rfl, lk, hcd⟩ := F.ex
  exact ⟨fun s us ws _ h1 h2 => .of_eq (h kV doc pm an cdv ct us ws h1 h2), fun r1 r2 => pick_vals (Vals.append r1 r2) is⟩
theorem pcallN {j k n : Nat} {ks : List Str} {is : List Nat} (G : Pr X.prog X.w X.K X.mg X.base x st ps j sp) (hk : KwOk x st ps n ks is) (hr : Room k X.A) (ha : PA X (e :: es) t) (hkw : PK X kws tk) (hj : j ≤ k := by first | decide | omega) (hg : Gl X x := by rfl)
    (hall : (backToKw pos (keywordEach kws X.env)).all (·.1.isSome) = true := by rfl) (hks : (backToKw pos (keywordEach kws X.env)).filterMap (·.1) = ks := by rfl)
    (hdb : (x == ("__debug__" : Str)) = false := by decide) (he : starEach (e :: es) X.env = (false, eval e X.env) :: starEach es X.env := by rfl)
    (hpl : ((backTo pos (starEach (e :: es) X.env)).any (·.1) || (backToKw pos (keywordEach kws X.env)).any (·.1.isNone)) = false := by rfl) :
    PE X (.Call (.Name x p) (e :: es) kws pos) (tCallN n ks.length sp (fun vs zs => pick is (vs ++ zs)) (fun _ _ _ => False) t tk) := by
  obtain ⟨f, fd, hm, F0, hb, F⟩ := G
  exact pe_callN F (hr.mono hj) hg hm F0.kp (kbn F0 hk) (fun _ _ _ _ _ _ _ h => h.elim) ha hkw hall hks hdb he hpl
theorem pcallN0 {j k : Nat} {ks : List Str} {is : List Nat} (G : Pr X.prog X.w X.K X.mg X.base x st ps j sp) (hk : KwOk x st ps 0 ks is) (hr : Room k X.A) (hkw : PK X kws tk) (hj : j ≤ k := by first | decide | omega) (hg : Gl X x := by rfl)
    (hall : (backToKw pos (keywordEach kws X.env)).all (·.1.isSome) = true := by rfl) (hks : (backToKw pos (keywordEach kws X.env)).filterMap (·.1) = ks := by rfl)
    (hdb : (x == ("__debug__" : Str)) = false := by decide)
    (hpl : ((backTo pos (starEach [] X.env)).any (·.1) || (backToKw pos (keywordEach kws X.env)).any (·.1.isNone)) = false := by rfl) :
    PE X (.Call (.Name x p) [] kws pos) (tCallN 0 ks.length sp (fun vs zs => pick is (vs ++ zs)) (fun _ _ _ => False) tNil tk) := by
  obtain ⟨f, fd, hm, F0, hb, F⟩ := G
  refine ⟨fun pins s σ H Q I h => ?_⟩
  refine wpAny_Call_Name_kw (ld_glob I hg hm ?_ hdb)
  refine PySem.W.callWith_KW0 (h₀ := X.base) I.ok.mod.kin F0.kp hall ?_ hpl
  refine thn (hkw.run pos pins s σ H _ I h) fun ws s2 ⟨zs, H2, I2, rz, l1, l2, q2⟩ => ⟨I2.kIn, ?_⟩
  rw [hks]
  exact run_fnN (us := []) (vs := []) F (hr.mono hj) (kbn F0 hk) (fun _ _ _ _ _ _ _ h => h.elim) I2 .nil rz rfl l2 q2
theorem pmake {C : Addr} {j k : Nat} (hm : X.mg x = some (.ref C)) (G : PrI X.prog X.w X.K X.mg X.base C ps j sp) (hr : Room k X.A) (ha : PA X (e :: es) t) (hj : j + 1 ≤ k := by first | decide | omega) (hg : Gl X x := by rfl)
    (hdb : (x == ("__debug__" : Str)) = false := by decide) (he : starEach (e :: es) X.env = (false, eval e X.env) :: starEach es X.env := by rfl) (hpl : (backTo pos (starEach es X.env)).any (·.1) = false := by rfl) :
    PE X (.Call (.Name x p) (e :: es) [] pos) (tMake C sp [] (fun _ _ _ => False) t) := by
  obtain ⟨f, fd, M, hb, F⟩ := G
  exact pe_make M F (hr.mono hj) hg hm hb .nil (fun _ _ _ _ _ _ _ h => h.elim) ha hdb he hpl
theorem pgI {i : Int} (h : ∃ t, X.mg x = some (.int i t)) (hg : Gl X x := by rfl) (hd : (x == ("__debug__" : Str)) = false := by decide) : PE X (.Name x p) (tC (.int i)) := by
  obtain ⟨t, h⟩ := h
  exact pe_glob hg h ⟨t, rfl⟩ hd
theorem pgS {z : Str} (h : ∃ t, X.mg x = some (.str z t)) (hg : Gl X x := by rfl) (hd : (x == ("__debug__" : Str)) = false := by decide) : PE X (.Name x p) (tC (.str z)) := by
  obtain ⟨t, h⟩ := h
  exact pe_glob hg h ⟨t, rfl⟩ hd
end
end Eyes

set_option Elab.async false
set_option linter.all false
set_option maxRecDepth 100000
set_option maxHeartbeats 4000000
/-! Rules of my own: operators, str() and f-strings of own instances; list(d.values()). -/
namespace Eyes
open PySem PySem.Spec PyProof.Rows L2
section
variable {X : Cx} {CX : CXT} {k : Nat} {f : Addr} {fd : FuncData} {ps : List Str} {sp : Sp} {E : XK}
theorem run_at (F : FnOk X.prog X.w X.K X.mg X.base CX k f fd ps sp) (hb : Binds X.K fd ps []) (hx : Passes CX X E) {A : Around} (hr : Room k A) (hfr : A.frames = X.A.frames) {pins : List (Addr × Obj)} {σ : L2.St} {H : Hp} {s : Shared} {vs : List V} {us : List Value} {Q : VK}
    {R : Value → Shared → Prop} (I : Inv X pins σ H s) (r : Vals vs us) (h : sp vs H Q E) (hq : ∀ v u s' H', Inv X pins σ H' s' → RelV v u → Q v H' → R u s') : wpAny (model X.prog X.w) A (call (.ref f) us) R X.xe s := by
  have e0 : Env0 X.prog X.w X.K X.mg X.base A X.stack s H := by
    have e := I.env0
    exact ⟨by rw [hfr]; exact e.frames, e.mod, e.bs, e.bsz, e.funs, e.frf, e.hok, e.bare⟩
  have hl := F.len _ _ _ _ h
  have hlu : us.length = ps.length := r.length.symm.trans hl
  refine wpAny_call (codeAny_mono (F.run A X.stack s H ⟨us, []⟩ us vs Q E hr e0 (by
    have := hb s us I.kIn (by simpa using hlu)
    simpa using this) r h) fun r s' hq' => ?_)
  cases r with
  | error e => exact hx pins σ H s e s' I hq'
  | ok fl =>
    cases fl with
    | ret w =>
      obtain ⟨z, H', I', rz, ez⟩ := I.after hq'
      exact hq z w s' H' I' rz ez
    | next => exact False.elim hq'
    | brk => exact False.elim hq'
    | cont => exact False.elim hq'
end
theorem cmpBack_of {v : V} {u : Value} {s : Shared} {Q : Value → Shared → Prop} (r : RelV v u) (q : Q u s) : PySem.W.CmpBack Q u s := by
  cases v with
  | non => cases (show u = Value.none from r); exact q
  | bl b => cases (show u = Value.bool b from r); exact q
  | int i => obtain ⟨t, rfl⟩ := r; exact q
  | str i => obtain ⟨t, rfl⟩ := r; exact q
  | byt i => obtain ⟨t, rfl⟩ := r; exact q
  | flt i => obtain ⟨t, rfl⟩ := r; exact q
  | ref a => cases (show u = Value.ref a from r); exact q
  | ty n => cases (show u = Value.type n from r); exact q
def rOwnB (C : Addr) (sp : Sp) : R2 := fun x y H Q => ∃ a b dx dy fs gs, x = .ref a ∧ y = .ref b ∧ H a = some (.ins C dx fs) ∧ H b = some (.ins C dy gs) ∧ sp [.ref a, .ref b] H Q (fun _ _ _ => False)
def rOwnStr (C : Addr) (sp : Sp) : List V → Hp → VK → Prop := fun xs H Q => ∃ a dx fs, xs = [.ref a] ∧ H a = some (.ins C dx fs) ∧ sp [.ref a] H (fun v H' => ∃ z, v = .str z ∧ Q v H') (fun _ _ _ => False)
section
variable {X : Cx} {C : Addr} {j k : Nat} {ps : List Str} {sp : Sp} {nm : Str}
theorem op_ownB {op : Operator} (hc : PySem.W.selfFirst X.K C = true) (G : PrM X.prog X.w X.K X.mg X.base C (PySem.dunder op.info.2) ps j sp) (hr : Room k X.A) (hj : j ≤ k := by first | decide | omega) : OpR X (binaryOp op) (rOwnB C sp) := by
  intro pins s σ H x y v u Q I rx ry h
  obtain ⟨f, fd, M, hb, F⟩ := G
  obtain ⟨a, b, dx, dy, fs, gs, rfl, rfl, ha, hb', q⟩ := h
  cases rx
  cases ry
  obtain ⟨mA, J, _⟩ := ins_get I.hok ha
  obtain ⟨mB, J', _⟩ := ins_get I.hok hb'
  obtain ⟨od, J, _⟩ := J.look
  obtain ⟨od', J', _⟩ := J'.look
  obtain ⟨m, hF⟩ := I.fr
  refine PySem.W.binop_K hF I.ok.mod.kin J J'.type hc M.at_ M.fn ?_
  exact run_at F hb (fun _ _ _ _ _ _ _ h => h.elim) (hr.mono hj) rfl I (vs := [.ref a, .ref b]) (.cons rfl (.cons rfl .nil)) q fun v u s' H' I' rv qv => cmpBack_of rv ⟨v, H', I', rv, qv⟩
theorem call_strOwn (G : PrM X.prog X.w X.K X.mg X.base C "__str__" ps j sp) (hr : Room k X.A) (hj : j + 2 ≤ k := by first | decide | omega) : CallR X (.type "str") (rOwnStr C sp) := by
  intro pins s σ H xs us Q I r h
  obtain ⟨f, fd, M, hb, F⟩ := G
  obtain ⟨a, dx, fs, rfl, ha, q⟩ := h
  obtain ⟨u, rfl, ru⟩ := vals1 r
  cases ru
  obtain ⟨mA, J, _⟩ := ins_get I.hok ha
  obtain ⟨od, J, _⟩ := J.look
  have hr2 : Room j X.A.in1.in1 := (hr.mono hj).in1.in1
  refine PySem.W.kso_call hr2.units0 I.kIn J M.at_ M.fn ?_
  refine run_at F hb (fun _ _ _ _ _ _ _ h => h.elim) hr2 rfl I (vs := [.ref a]) (.cons rfl .nil) q fun v u s' H' I' rv qv => ?_
  obtain ⟨z, rfl, qv⟩ := qv
  obtain ⟨t, rfl⟩ := rv
  exact ⟨.str z, H', I', ⟨t, rfl⟩, qv⟩
theorem pe_fmtOwn {e : Expr} {te : TE} {pos : Pos} (G : PrM X.prog X.w X.K X.mg X.base C "__str__" ps j sp) (hr : Room k X.A) (he : PE X e te) (hj : j ≤ k := by first | decide | omega) :
    PE X (.FormattedValue e 115 none pos) (fun σ H Q => te σ H fun x H1 => ∃ a dx fs, x = .ref a ∧ H1 a = some (.ins C dx fs) ∧ sp [.ref a] H1 (fun v H' => ∃ z, v = .str z ∧ z.length ≤ sizeLine ∧ Q v H') (fun _ _ _ => False)) := by
  refine ⟨fun pins s σ H Q I h => ?_⟩
  obtain ⟨f, fd, M, hb, F⟩ := G
  refine wpAny_FormattedValue_s (thn (he.run pins s σ H _ I h) fun v s1 hv => ?_)
  obtain ⟨x, H1, I1, r1, a, dx, fs, rfl, ha, q⟩ := hv
  cases r1
  obtain ⟨mA, J, _⟩ := ins_get I1.hok ha
  obtain ⟨od, J, _⟩ := J.look
  have hrj := hr.mono hj
  show wpAny _ _ (pyStrObj (.ref a)) _ _ _
  refine PySem.W.kfo_str hrj.units0 I1.kIn J M.at_ M.fn ?_
  refine run_at F hb (fun _ _ _ _ _ _ _ h => h.elim) hrj rfl I1 (vs := [.ref a]) (.cons rfl .nil) q fun v u s' H' I' rv qv => ?_
  obtain ⟨z, rfl, hz, qv⟩ := qv
  obtain ⟨t, rfl⟩ := rv
  exact wpAny_formatField_str ⟨.str z, H', I', ⟨t, rfl⟩, qv⟩ ⟨.str z, H', I'.tok _, ⟨_, rfl⟩, qv⟩ hz
end
section
variable {X : Cx} {C : Addr} {j k : Nat} {ps : List Str} {sp : Sp} {m : Str} {o e : Expr} {es : List Expr} {apos pos : Pos} {ta : TE} {t : TA}
theorem pmeth {pl : Sem Bool} (c : Cls X.K C) (G : PrM X.prog X.w X.K X.mg X.base C m ps j sp) (hr : Room k X.A) (he : PE X o ta) (ha : PA X (e :: es) t) (hj : j ≤ k := by first | decide | omega)
    (hst : starEach (e :: es) X.env = (false, eval e X.env) :: starEach es X.env := by rfl) (hpl : (backTo pos (starEach es X.env)).any (·.1) = false := by rfl)
    (ht : eval (.Call (.Attribute o m apos) (e :: es) [] pos) X.env = (do
      let ov ← eval o X.env
      standAt apos.atName
      let (f, first) ← holding [ov] (getMethod ov m pl)
      callWith pos f first (backTo pos (starEach (e :: es) X.env)) (backToKw pos (keywordEach [] X.env))) := by rfl) :
    PE X (.Call (.Attribute o m apos) (e :: es) [] pos) (tMeth C m sp [] (fun _ _ _ => False) ta t) := by
  obtain ⟨f, fd, M, hb, F⟩ := G
  exact pe_meth he c M F (hr.mono hj) hb .nil (fun _ _ _ _ _ _ _ h => h.elim) ha hst hpl ht
theorem pmeth0 {pl : Sem Bool} (c : Cls X.K C) (G : PrM X.prog X.w X.K X.mg X.base C m ps j sp) (hr : Room k X.A) (he : PE X o ta) (hj : j ≤ k := by first | decide | omega)
    (ht : eval (.Call (.Attribute o m apos) [] [] pos) X.env = (do
      let ov ← eval o X.env
      standAt apos.atName
      let (f, first) ← holding [ov] (getMethod ov m pl)
      callWith pos f first (backTo pos (starEach [] X.env)) (backToKw pos (keywordEach [] X.env))) := by rfl) :
    PE X (.Call (.Attribute o m apos) [] [] pos) (tMeth C m sp [] (fun _ _ _ => False) ta tNil) := by
  obtain ⟨f, fd, M, hb, F⟩ := G
  exact pe_meth0 he c M F (hr.mono hj) hb .nil (fun _ _ _ _ _ _ _ h => h.elim) ht
end
def tListVals (te : TE) : TE := fun σ H Q => te σ H fun x H1 => ∃ (d : Addr) (kvs : List (Key × V)), x = .ref d ∧ H1 d = some (.dK kvs) ∧ ∀ l, H1 l = none → Q (.ref l) (upd H1 l (.lst (kvs.map (·.2))))
section
variable {X : Cx} {e : Expr} {te : TE} {p apos cpos pos : Pos}
theorem vals_of_kv {kvs : List (Key × V)} {vs : List (Key × Value)} (kv : KV kvs vs) : Vals (kvs.map (·.2)) (vs.map (·.2)) := by
  unfold KV at kv
  induction kv with
  | nil => exact .nil
  | cons h _ ih => exact .cons h.2 ih
theorem pe_listVals (hc : X.calm = true) (he : PE X e te) (hg : Gl X "list") (hm : X.mg "list" = none) (hbase : attributeBase e "values" X.env (eval e X.env) = eval e X.env := by rfl) (hline : (apos.endLine == cpos.line) = true := by rfl)
    (hs : starEach [.Call (.Attribute e "values" apos) [] [] cpos] X.env = (false, eval (.Call (.Attribute e "values" apos) [] [] cpos) X.env) :: starEach [] X.env := by rfl) :
    PE X (.Call (.Name "list" p) [.Call (.Attribute e "values" apos) [] [] cpos] [] pos) (tListVals te) := by
  refine ⟨fun pins s σ H Q I hq => ?_⟩
  refine wpAny_Call_Name_kw (ld_blt I hg hm PyProof.Rows.boot_list ?_)
  refine PyProof.Rows.callWith_type1 ?_ hs rfl
  rw [hs]
  show wpAny _ _ (spliced ((false, eval (.Call (.Attribute e "values" apos) [] [] cpos) X.env) :: backTo pos (starEach [] X.env))) _ _ s
  refine Calls.spliced_cons ?_
  refine wpAny_Call_method (T := "dict") (id := "dict.values") hbase rfl hline F.plainAttrs_dict F.slot_dict_values F.type_dict_values (thn (he.run pins s σ H _ I hq) fun u s1 ⟨x, H1, I1, rx, d, kvs, ex, hd, q⟩ => ?_)
  subst ex
  obtain rfl : u = Value.ref d := rx
  obtain ⟨hz, hs0, vs, kv, hdo⟩ := I1.hok d _ hd
  obtain ⟨ep, hat⟩ := hdo.dictAt
  have lk : kvs.length = vs.length := Paired.length kv
  have I2 : Inv X pins σ H1 { s1 with heap := s1.heap.push { cls := .type "dict_values", data := .fields #[.ref d] } } := I1.kept (t' := s1.toks) fun b ob q => Heap.get?_push_of_some _ q
  refine ⟨hdo.typeIs, hdo.mapOf.noDict, ?_⟩
  show wpAny _ _ (callWith cpos (.builtin "dict.values") [.ref d] [] []) _ X.xe s1
  refine method_meetsIn F.slot_dict_values F.entry_dict_values rfl (PySem.evalArgs_none ⟨rfl, hdo.typeIs, F.args_dict_values_1 _, _, meets_dict_values (mixKind X.prog X.w) d hs0, ⟨vs, hdo⟩, ?_⟩)
  refine Calls.spliced_nil ?_
  refine PySem.W.kdl_call (PySem.W.kdl_values (knd := mixKind X.prog X.w) (kvs := vs) (ep := ep)) (I1.ok.hd hc) ⟨⟨_, Heap.get?_push_size _ rfl, rfl, rfl⟩, hat.push _⟩ (by omega) fun h' tk acc c hk hS hacc => ?_
  have eacc : acc.toList = vs.map (·.2) := by
    refine List.ext_getElem? fun i => ?_
    rw [Array.getElem?_toList, List.getElem?_map]
    cases h : acc[i]? with
    | none =>
      have : vs.length ≤ i := by
        rw [← hacc.1]
        exact Array.getElem?_eq_none_iff.mp h
      rw [List.getElem?_eq_none this]
      rfl
    | some v =>
      obtain ⟨k, hk⟩ := hacc.2 i v h
      rw [hk]
      rfl
  have hS0 : h'.get? (s1.heap.push { cls := .type "dict_values", data := .fields #[.ref d] }).objs.size = some { cls := .type "list", data := .seq (vs.map (·.2)).toArray c } := by
    rw [← eacc, Array.toArray_toList]
    exact hS
  refine ⟨.ref _, _, I2.laid (t' := tk) (o := .lst (kvs.map (·.2))) hk (Nat.le_refl _) ⟨by rw [List.length_map]; exact hz, _, c, vals_of_kv kv, hS0⟩, rfl, q _ (I2.hok.fresh (Nat.le_refl _))⟩
end
theorem pe_fldK {X : Cx} {K : PySem.W.Frag} {e : Expr} {ta : TE} {f : Str} {pos : Pos} (hK : X.K = K) (he : PE X e ta) (hb : attributeBase e f X.env (eval e X.env) = eval e X.env) : PE X (.Attribute e f pos) (tFld K ta f) := by
  subst hK
  exact pe_fld he hb
theorem u65 {A : Around} {k : Nat} (hr : Room k A) : A.units + 65 < cLine := by
  have := hr.un
  omega
section
variable {X : Cx} {K : PySem.W.Frag}
theorem ix_listK (hK : X.K = K) : IxR X (rIxL K) := by
  subst hK
  exact ix_list
theorem ix_tupK (hK : X.K = K) : IxR X (rIxT K) := by
  subst hK
  exact ix_tup
theorem ix_seqK (hK : X.K = K) : IxR X (rIx K) := by
  subst hK
  exact ix_seq
end
section
variable {X : Cx} {K : PySem.W.Frag}
theorem op_in_seqK (hK : X.K = K) : OpR X (compareOp .In) (rIn K false) := by
  subst hK
  exact op_in_seq
theorem op_notIn_seqK (hK : X.K = K) : OpR X (compareOp .NotIn) (rIn K true) := by
  subst hK
  exact op_notIn_seq
end
end Eyes

set_option Elab.async false
set_option linter.all false
set_option maxRecDepth 100000
set_option maxHeartbeats 4000000
namespace Eyes
open PySem PySem.Spec PyProof.Rows L2 Evl
local macro_rules | `(tactic| walk_at "v") => `(tactic| refine ⟨_, rfl, ?_⟩)
local macro_rules | `(tactic| walk_at "rd") => `(tactic| first
  | refine ⟨_, rfl, ?_⟩
  | refine ⟨_, _, rfl, rfl, .inr ⟨by decide, by decide⟩, ?_⟩
  | refine ⟨_, _, rfl, rfl, .inl ⟨by decide, by decide⟩, ?_⟩
  | refine ⟨_, _, rfl, rfl, (show (0 : Int) < _ by decide), ?_⟩
  | refine ⟨_, _, rfl, rfl, (show (0 : Int) < _ ∧ _ < (1073741824 : Int) by decide), ?_⟩
  | refine ⟨_, _, rfl, rfl, ?_⟩
  | refine .inl ⟨_, rfl, ?_⟩)
def topS (i : Nat) : Stmt := PySem.Challenge.pw_pooledeyes_k01_names_and_numbers_judged.main.body.getD i (.Pass ⟨0, 0, 0, 0⟩)
abbrev s_is_name : Stmt := topS 3
abbrev n_is_name : List Str := ["value", "letter"]
abbrev p_is_name : List Str := ["value"]
theorem sc_is_name : FnScope n_is_name p_is_name (defScope s_is_name) := ⟨rfl, rfl, rfl, by decide +kernel, rfl, by decide +kernel, by decide +kernel⟩
abbrev s_is_number : Stmt := topS 4
abbrev n_is_number : List Str := ["value", "least", "most"]
abbrev p_is_number : List Str := ["value", "least", "most"]
theorem sc_is_number : FnScope n_is_number p_is_number (defScope s_is_number) := ⟨rfl, rfl, rfl, by decide +kernel, rfl, by decide +kernel, by decide +kernel⟩
abbrev s_InvalidName___init : Stmt := inClass (topS 7) 0
abbrev n_InvalidName___init : List Str := ["self", "value"]
abbrev p_InvalidName___init : List Str := ["self", "value"]
theorem sc_InvalidName___init : FnScope n_InvalidName___init p_InvalidName___init (defScope s_InvalidName___init) := ⟨rfl, rfl, rfl, by decide +kernel, rfl, by decide +kernel, by decide +kernel⟩
abbrev s_TooMany___init : Stmt := inClass (topS 8) 0
abbrev n_TooMany___init : List Str := ["self", "what", "most"]
abbrev p_TooMany___init : List Str := ["self", "what", "most"]
theorem sc_TooMany___init : FnScope n_TooMany___init p_TooMany___init (defScope s_TooMany___init) := ⟨rfl, rfl, rfl, by decide +kernel, rfl, by decide +kernel, by decide +kernel⟩
abbrev s_without_repeats : Stmt := topS 11
abbrev n_without_repeats : List Str := ["circles", "kept", "circle", "text"]
abbrev p_without_repeats : List Str := ["circles"]
theorem sc_without_repeats : FnScope n_without_repeats p_without_repeats (defScope s_without_repeats) := ⟨rfl, rfl, rfl, by decide +kernel, rfl, by decide +kernel, by decide +kernel⟩
abbrev s_flattened : Stmt := topS 12
abbrev n_flattened : List Str := ["kind", "circles", "flat", "circle"]
abbrev p_flattened : List Str := ["kind", "circles"]
theorem sc_flattened : FnScope n_flattened p_flattened (defScope s_flattened) := ⟨rfl, rfl, rfl, by decide +kernel, rfl, by decide +kernel, by decide +kernel⟩
abbrev s_size_of : Stmt := topS 13
abbrev n_size_of : List Str := ["parts", "part"]
abbrev p_size_of : List Str := ["parts"]
theorem sc_size_of : FnScope n_size_of p_size_of (defScope s_size_of) := ⟨rfl, rfl, rfl, by decide +kernel, rfl, by decide +kernel, by decide +kernel⟩
abbrev s_depth_over : Stmt := topS 14
abbrev n_depth_over : List Str := ["parts", "part"]
abbrev p_depth_over : List Str := ["parts"]
theorem sc_depth_over : FnScope n_depth_over p_depth_over (defScope s_depth_over) := ⟨rfl, rfl, rfl, by decide +kernel, rfl, by decide +kernel, by decide +kernel⟩
abbrev s_inner_text : Stmt := topS 15
abbrev n_inner_text : List Str := ["part"]
abbrev p_inner_text : List Str := ["part"]
theorem sc_inner_text : FnScope n_inner_text p_inner_text (defScope s_inner_text) := ⟨rfl, rfl, rfl, by decide +kernel, rfl, by decide +kernel, by decide +kernel⟩
abbrev s_text_of : Stmt := topS 16
abbrev n_text_of : List Str := ["kind", "parts", "texts", "part"]
abbrev p_text_of : List Str := ["kind", "parts"]
theorem sc_text_of : FnScope n_text_of p_text_of (defScope s_text_of) := ⟨rfl, rfl, rfl, by decide +kernel, rfl, by decide +kernel, by decide +kernel⟩
abbrev s_Circle___init : Stmt := inClass (topS 17) 1
abbrev n_Circle___init : List Str := ["self", "kind", "name", "parts"]
abbrev p_Circle___init : List Str := ["self", "kind", "name", "parts"]
theorem sc_Circle___init : FnScope n_Circle___init p_Circle___init (defScope s_Circle___init) := ⟨rfl, rfl, rfl, by decide +kernel, rfl, by decide +kernel, by decide +kernel⟩
abbrev s_Circle_parts : Stmt := inClass (topS 17) 2
abbrev n_Circle_parts : List Str := ["self"]
abbrev p_Circle_parts : List Str := ["self"]
theorem sc_Circle_parts : FnScope n_Circle_parts p_Circle_parts (defScope s_Circle_parts) := ⟨rfl, rfl, rfl, by decide +kernel, rfl, by decide +kernel, by decide +kernel⟩
abbrev s_Circle_eyes : Stmt := inClass (topS 17) 3
abbrev n_Circle_eyes : List Str := ["self", "part", "name"]
abbrev p_Circle_eyes : List Str := ["self"]
theorem sc_Circle_eyes : FnScope n_Circle_eyes p_Circle_eyes (defScope s_Circle_eyes) := ⟨rfl, rfl, rfl, by decide +kernel, rfl, by decide +kernel, by decide +kernel⟩
abbrev s_Circle___str : Stmt := inClass (topS 17) 4
abbrev n_Circle___str : List Str := ["self"]
abbrev p_Circle___str : List Str := ["self"]
theorem sc_Circle___str : FnScope n_Circle___str p_Circle___str (defScope s_Circle___str) := ⟨rfl, rfl, rfl, by decide +kernel, rfl, by decide +kernel, by decide +kernel⟩
abbrev s_Circle___repr : Stmt := inClass (topS 17) 5
abbrev n_Circle___repr : List Str := ["self"]
abbrev p_Circle___repr : List Str := ["self"]
theorem sc_Circle___repr : FnScope n_Circle___repr p_Circle___repr (defScope s_Circle___repr) := ⟨rfl, rfl, rfl, by decide +kernel, rfl, by decide +kernel, by decide +kernel⟩
abbrev s_Circle___eq : Stmt := inClass (topS 17) 6
abbrev n_Circle___eq : List Str := ["self", "other"]
abbrev p_Circle___eq : List Str := ["self", "other"]
theorem sc_Circle___eq : FnScope n_Circle___eq p_Circle___eq (defScope s_Circle___eq) := ⟨rfl, rfl, rfl, by decide +kernel, rfl, by decide +kernel, by decide +kernel⟩
abbrev s_Circle___and : Stmt := inClass (topS 17) 7
abbrev n_Circle___and : List Str := ["self", "other"]
abbrev p_Circle___and : List Str := ["self", "other"]
theorem sc_Circle___and : FnScope n_Circle___and p_Circle___and (defScope s_Circle___and) := ⟨rfl, rfl, rfl, by decide +kernel, rfl, by decide +kernel, by decide +kernel⟩
abbrev s_Circle___or : Stmt := inClass (topS 17) 8
abbrev n_Circle___or : List Str := ["self", "other"]
abbrev p_Circle___or : List Str := ["self", "other"]
theorem sc_Circle___or : FnScope n_Circle___or p_Circle___or (defScope s_Circle___or) := ⟨rfl, rfl, rfl, by decide +kernel, rfl, by decide +kernel, by decide +kernel⟩
abbrev s_eye : Stmt := topS 18
abbrev n_eye : List Str := ["name"]
abbrev p_eye : List Str := ["name"]
theorem sc_eye : FnScope n_eye p_eye (defScope s_eye) := ⟨rfl, rfl, rfl, by decide +kernel, rfl, by decide +kernel, by decide +kernel⟩
abbrev s_built : Stmt := topS 19
abbrev n_built : List Str := ["kind", "circles", "parts"]
abbrev p_built : List Str := ["kind", "circles"]
theorem sc_built : FnScope n_built p_built (defScope s_built) := ⟨rfl, rfl, rfl, by decide +kernel, rfl, by decide +kernel, by decide +kernel⟩
abbrev s_law_bag : Stmt := topS 21
abbrev n_law_bag : List Str := ["_law_script", "_law_mixed", "_law_piece"]
abbrev p_law_bag : List Str := ["_law_script"]
theorem sc_law_bag : FnScope n_law_bag p_law_bag (defScope s_law_bag) := ⟨rfl, rfl, rfl, by decide +kernel, rfl, by decide +kernel, by decide +kernel⟩
abbrev s_law_draw : Stmt := topS 22
abbrev n_law_draw : List Str := ["_law_bag_here", "_law_sides", "_law_piece", "_law_digit", "_law_state"]
abbrev p_law_draw : List Str := ["_law_bag_here", "_law_sides"]
theorem sc_law_draw : FnScope n_law_draw p_law_draw (defScope s_law_draw) := ⟨rfl, rfl, rfl, by decide +kernel, rfl, by decide +kernel, by decide +kernel⟩
abbrev s_law_of : Stmt := topS 23
abbrev n_law_of : List Str := ["_law_bag_here", "_law_things"]
abbrev p_law_of : List Str := ["_law_bag_here", "_law_things"]
theorem sc_law_of : FnScope n_law_of p_law_of (defScope s_law_of) := ⟨rfl, rfl, rfl, by decide +kernel, rfl, by decide +kernel, by decide +kernel⟩
abbrev s_law_same : Stmt := topS 24
abbrev n_law_same : List Str := ["_law_found", "_law_due", "_law_mark", "_law_x", "_law_y"]
abbrev p_law_same : List Str := ["_law_found", "_law_due"]
theorem sc_law_same : FnScope n_law_same p_law_same (defScope s_law_same) := ⟨rfl, rfl, rfl, by decide +kernel, rfl, by decide +kernel, by decide +kernel⟩
abbrev s_law_is_title : Stmt := topS 25
abbrev n_law_is_title : List Str := ["_law_thing", "_law_sign"]
abbrev p_law_is_title : List Str := ["_law_thing"]
theorem sc_law_is_title : FnScope n_law_is_title p_law_is_title (defScope s_law_is_title) := ⟨rfl, rfl, rfl, by decide +kernel, rfl, by decide +kernel, by decide +kernel⟩
abbrev s_law_cut_to : Stmt := topS 26
abbrev n_law_cut_to : List Str := ["_law_number_here"]
abbrev p_law_cut_to : List Str := ["_law_number_here"]
theorem sc_law_cut_to : FnScope n_law_cut_to p_law_cut_to (defScope s_law_cut_to) := ⟨rfl, rfl, rfl, by decide +kernel, rfl, by decide +kernel, by decide +kernel⟩
abbrev s_law_end : Stmt := topS 27
abbrev n_law_end : List Str := ["_law_bag_here", "_law_far"]
abbrev p_law_end : List Str := ["_law_bag_here"]
theorem sc_law_end : FnScope n_law_end p_law_end (defScope s_law_end) := ⟨rfl, rfl, rfl, by decide +kernel, rfl, by decide +kernel, by decide +kernel⟩
abbrev s_law_word : Stmt := topS 28
abbrev n_law_word : List Str := ["_law_bag_here", "_law_turn", "_law_size", "_law_good", "_law_spot", "_law_sign", "_law_k"]
abbrev p_law_word : List Str := ["_law_bag_here"]
theorem sc_law_word : FnScope n_law_word p_law_word (defScope s_law_word) := ⟨rfl, rfl, rfl, by decide +kernel, rfl, by decide +kernel, by decide +kernel⟩
abbrev s_law_other : Stmt := topS 29
abbrev n_law_other : List Str := ["_law_bag_here", "_law_x"]
abbrev p_law_other : List Str := ["_law_bag_here"]
theorem sc_law_other : FnScope n_law_other p_law_other (defScope s_law_other) := ⟨rfl, rfl, rfl, by decide +kernel, rfl, by decide +kernel, by decide +kernel⟩
abbrev s_law_value : Stmt := topS 30
abbrev n_law_value : List Str := ["_law_bag_here", "_law_low", "_law_high", "_law_turn"]
abbrev p_law_value : List Str := ["_law_bag_here", "_law_low", "_law_high"]
theorem sc_law_value : FnScope n_law_value p_law_value (defScope s_law_value) := ⟨rfl, rfl, rfl, by decide +kernel, rfl, by decide +kernel, by decide +kernel⟩
abbrev s_law : Stmt := topS 31
abbrev n_law : List Str := ["_law_script", "_law_bag_here", "_law_turn", "_law_low", "_law_high", "_law_x", "_law_due", "_law_told", "_law_word_here"]
abbrev p_law : List Str := ["_law_script"]
theorem sc_law : FnScope n_law p_law (defScope s_law) := ⟨rfl, rfl, rfl, by decide +kernel, rfl, by decide +kernel, by decide +kernel⟩
structure Adr where
  no : Nat
  Circle : Addr
structure Txt (K : PySem.W.Frag) (mg : Str → Option Value) (A : Adr) : Prop where
  n_isinstance : mg "isinstance" = none
  n_str : mg "str" = none
  n_len : mg "len" = none
  n_all : mg "all" = none
  n_bool : mg "bool" = none
  n_int : mg "int" = none
  n_list : mg "list" = none
  n_sum : mg "sum" = none
  n_max : mg "max" = none
  n_sorted : mg "sorted" = none
  n_set : mg "set" = none
  n_NotImplemented : mg "NotImplemented" = none
  n_abs : mg "abs" = none
  n_tuple : mg "tuple" = none
  n_zip : mg "zip" = none
  n_dict : mg "dict" = none
  n_min : mg "min" = none
  n_range : mg "range" = none
  n_ValueError : mg "ValueError" = none
  m_LETTERS : ∃ t, mg "LETTERS" = some (.str "abcdefghijklmnopqrstuvwxyz" t)
  m_MOST_LETTERS : ∃ t, mg "MOST_LETTERS" = some (.int 6 t)
  m_MOST_DEPTH : ∃ t, mg "MOST_DEPTH" = some (.int 20 t)
  m_Circle : mg "Circle" = some (.ref A.Circle)
  c_Circle : Cls K A.Circle
  y_Circle : ClsY K A.Circle
  s_Circle : PySem.W.selfFirst K A.Circle = true
  a_Circle_kind : NoAttr K A.Circle "kind"
  a_Circle_name : NoAttr K A.Circle "name"
  a_Circle_parts : NoAttr K A.Circle "_parts"
  a_Circle_size : NoAttr K A.Circle "size"
  a_Circle_depth : NoAttr K A.Circle "depth"
  a_Circle_text : NoAttr K A.Circle "_text"
  k_Circle_LIMIT : ∃ t, ClX.CRead K A.Circle (.type "type") ∧ ClX.CVal K A.Circle (.type "type") "LIMIT" (.int 60) (.int 60 t)
  i_Circle : InitAt K A.Circle "Circle.__init__" s_Circle___init p_Circle___init
  f_is_name : FnAt K mg "is_name" s_is_name p_is_name
  f_is_number : FnAt K mg "is_number" s_is_number p_is_number
  f_eye : FnAt K mg "eye" s_eye p_eye
  f_law_bag : FnAt K mg "_law_bag" s_law_bag p_law_bag
  f_law_draw : FnAt K mg "_law_draw" s_law_draw p_law_draw
  f_law_of : FnAt K mg "_law_of" s_law_of p_law_of
  f_law_same : FnAt K mg "_law_same" s_law_same p_law_same
  f_law_is_title : FnAt K mg "_law_is_title" s_law_is_title p_law_is_title
  f_law_cut_to : FnAt K mg "_law_cut_to" s_law_cut_to p_law_cut_to
  f_law_end : FnAt K mg "_law_end" s_law_end p_law_end
  f_law_word : FnAt K mg "_law_word" s_law_word p_law_word
  f_law_other : FnAt K mg "_law_other" s_law_other p_law_other
  f_law_value : FnAt K mg "_law_value" s_law_value p_law_value
  f_law : FnAt K mg "law" s_law p_law
/-! ### the bag of drawn numbers -/
structure BagS (b c : Addr) (ns : List Int) (i r m n : Int) (G H : Hp) : Prop where
  nb : G b = none
  nc : G c = none
  ex : Ex G H
  at_ : H b = some (.lst [.ref c, .int i, .int r, .int m, .int n])
  cells : H c = some (.lst (ns.map V.int))
  ne : c ≠ b
  i0 : 0 ≤ i
  r0 : 0 ≤ r
  m0 : 0 ≤ m
  m1 : m < 2147483648
theorem BagS.set {b c : Addr} {ns : List Int} {i r m n i' r' m' n' : Int} {G H : Hp} (B : BagS b c ns i r m n G H) (h1 : 0 ≤ i') (h2 : 0 ≤ r') (h3 : 0 ≤ m') (h4 : m' < 2147483648) :
    BagS b c ns i' r' m' n' G (upd H b (.lst [.ref c, .int i', .int r', .int m', .int n'])) :=
  ⟨B.nb, B.nc, B.ex.mut B.nb, upd_same, (upd_ne B.ne).trans B.cells, B.ne, h1, h2, h3, h4⟩
def At (b : Addr) (G H : Hp) : Prop := ∃ (c : Addr) (ns : List Int) (i r m n : Int), BagS b c ns i r m n G H
theorem At.nb {b : Addr} {G H : Hp} (h : At b G H) : G b = none := by
  obtain ⟨c, ns, i, r, m, n, B⟩ := h
  exact B.nb
theorem At.ex {b : Addr} {G H : Hp} (h : At b G H) : Ex G H := by
  obtain ⟨c, ns, i, r, m, n, B⟩ := h
  exact B.ex
theorem At.mono {b : Addr} {G H H' : Hp} (h : At b G H) (e : Ex H H') : At b G H' := by
  obtain ⟨c, ns, i, r, m, n, B⟩ := h
  exact ⟨c, ns, i, r, m, n, B.nb, B.nc, B.ex.trans e, e _ _ B.at_, e _ _ B.cells, B.ne, B.i0, B.r0, B.m0, B.m1⟩
theorem At.free {b : Addr} {G H : Hp} (h : At b G H) {p : Addr} (hp : H p = none) : p ≠ b := by
  obtain ⟨c, ns, i, r, m, n, B⟩ := h
  intro e
  rw [e, B.at_] at hp
  cases hp
theorem At.new {b : Addr} {G H : Hp} (h : At b G H) {p : Addr} {o : HO} (hp : H p = none) : At b (upd G p o) (upd H p o) := by
  have hf := h.free hp
  have hc : ∀ c ns i r m n, BagS b c ns i r m n G H → p ≠ c := fun c ns i r m n B e => by
    rw [e, B.cells] at hp
    cases hp
  obtain ⟨c, ns, i, r, m, n, B0⟩ := h
  have B : BagS b c ns i r m n G (upd H p o) := ⟨B0.nb, B0.nc, B0.ex.trans (Ex.new hp), Ex.new hp _ _ B0.at_, Ex.new hp _ _ B0.cells, B0.ne, B0.i0, B0.r0, B0.m0, B0.m1⟩
  refine ⟨c, ns, i, r, m, n, (upd_ne hf.symm).trans B.nb, (upd_ne (hc _ _ _ _ _ _ B0).symm).trans B.nc, fun a u e => ?_, B.at_, B.cells, B.ne, B.i0, B.r0, B.m0, B.m1⟩
  by_cases ha : a = p
  · subst ha
    rw [upd_same] at e ⊢
    exact e
  · rw [upd_ne ha] at e
    exact B.ex a u e
theorem At.weak {b : Addr} {G G1 H : Hp} (h : At b G1 H) (e : Ex G G1) : At b G H := by
  obtain ⟨c, ns, i, r, m, n, B⟩ := h
  exact ⟨c, ns, i, r, m, n, fresh_back e B.nb, fresh_back e B.nc, e.trans B.ex, B.at_, B.cells, B.ne, B.i0, B.r0, B.m0, B.m1⟩
theorem At.nh {b : Addr} {G H : Hp} (h : At b G H) {p : Addr} (hp : H p = none) : G p = none := fresh_back h.ex hp
theorem At.put {b : Addr} {G H : Hp} {p : Addr} {o o' : HO} (h : At b (upd G p o) H) : At b (upd G p o') (upd H p o') := by
  obtain ⟨c, ns, i, r, m, n, B⟩ := h
  have hb : b ≠ p := fun e => by
    have := B.nb
    rw [e, upd_same] at this
    cases this
  have hc : c ≠ p := fun e => by
    have := B.nc
    rw [e, upd_same] at this
    cases this
  refine ⟨c, ns, i, r, m, n, ?_, ?_, fun a u e => ?_, (upd_ne hb).trans B.at_, (upd_ne hc).trans B.cells, B.ne, B.i0, B.r0, B.m0, B.m1⟩
  · have := B.nb
    rw [upd_ne hb] at this ⊢
    exact this
  · have := B.nc
    rw [upd_ne hc] at this ⊢
    exact this
  · by_cases ha : a = p
    · subst ha
      rw [upd_same] at e ⊢
      exact e
    · rw [upd_ne ha] at e ⊢
      exact B.ex a u (by rw [upd_ne ha]; exact e)
theorem cut_to (xs : List V) (k : Nat) : cutV xs none (some (k : Int)) = xs.take k := by
  unfold cutV
  rw [HT.sIx_none, HT.sIx_nat, List.drop_zero, Nat.sub_zero]
  rcases Nat.le_total k xs.length with h | h
  · rw [Nat.min_eq_left h]
  · rw [Nat.min_eq_right h, List.take_of_length_le h, List.take_of_length_le (Nat.le_refl _)]
theorem at_of' {α : Type} {xs : List α} {z : Int} {v : α} (e : 0 ≤ z) (h : xs[z.toNat]? = some v) : atI xs z = some v := by
  have e2 : z = (z.toNat : Int) := by omega
  rw [e2]
  exact atI_nat h
def spBag (K : PySem.W.Frag) : Sp := fun vs H Q _ => ∃ (a : Addr) (ns : List Int), vs = [.ref a] ∧ SqL K H a (ns.map V.int) ∧ ∀ b H', H b = none → At b H H' → Q (.ref b) H'
def spDraw : Sp := fun vs H Q _ => ∃ (b : Addr) (z : Int) (G : Hp), vs = [.ref b, .int z] ∧ At b G H ∧ 0 < z ∧ z < 1073741824 ∧ ∀ d H', 0 ≤ d → d < z → At b G H' → Q (.int d) H'
section
variable {P : Program} {w : World} {K : PySem.W.Frag} {mg : Str → Option Value} {base : Heap}
theorem ok_law_bag {AA : Adr} (T : Txt K mg AA) : Pr P w K mg base "_law_bag" s_law_bag p_law_bag 1 (spBag K) := by
  refine pr_mk T.f_law_bag sc_law_bag (fun vs H Q E h => ?_) (fun f cdv A outer s H vs Q E hr h => ?_)
  · obtain ⟨a, ns, rfl, _⟩ := h
    rfl
  · obtain ⟨a, ns, rfl, hS, q⟩ := h
    refine ⟨_, (pss_cons (ps_set (i := 1) sc_law_bag.nd rfl (.inl rfl) pe_int)
      (pss_cons (ps_for PassesOwn.never rfl (pi_list (pe_slice sl_list (pv 0) po_none (po_some pe_int))) (pg_name (i := 2) sc_law_bag.nd rfl (.inl rfl))
      (pss_one (ps_set (i := 1) sc_law_bag.nd rfl (.inl rfl) (pe_op op_mod (pe_callTy call_int1 (by rfl) T.n_int PyProof.Rows.boot_int (pa_cons (pe_op op_add (pe_op op_add (pe_op op_mul (pv 1) pe_int) (pe_op op_mul (pe_op op_mod (pe_callTy call_int1 (by rfl) T.n_int PyProof.Rows.boot_int (pa_cons (pv 2) pa_nil)) pe_int) pe_int)) pe_int) pa_nil)) pe_int))))
      (pss_one (ps_ret (pe_lst (pa_cons (pe_callTy call_list_of (by rfl) T.n_list PyProof.Rows.boot_list (pa_cons (pe_slice sl_list (pv 0) po_none (po_some pe_int)) pa_nil)) (pa_cons pe_int (pa_cons pe_int (pa_cons (pv 1) (pa_cons pe_int pa_nil)))))))))), ?_⟩
    -- mixed = 43001
    -- for piece in script[:63]
    refine ⟨_, rfl, 63, rfl, a, _, rfl, hS, fun p np => ?_⟩
    have hc : cutV (ns.map V.int) none (some 63) = (ns.take 63).map V.int := (cut_to _ 63).trans List.map_take.symm
    rw [hc]
    have e1 : Ex H (upd H p (.lst ((ns.take 63).map V.int))) := Ex.new np
    refine ⟨p, rfl, ⟨_, sq_of upd_same⟩, for_list (xs := (ns.take 63).map V.int) (fun _ σ H' => ∃ (m : Int) (y : Option V), σ = [some (.ref a), some (.int m), y] ∧ 0 ≤ m ∧ m < 2147483587 ∧ Ex (upd H p (.lst ((ns.take 63).map V.int))) H') ⟨43001, none, rfl, by omega, by omega, Ex.refl _⟩ (fun i σ H' _ hp => ?_) (fun i x σ H' hx hp => ?_) (fun σ H' hp => ?_)⟩
    · obtain ⟨m, y, rfl, _, _, e2⟩ := hp
      exact sq_of (e2 _ _ upd_same)
    · obtain ⟨m, y, rfl, h0, h1, e2⟩ := hp
      rw [List.getElem?_map] at hx
      obtain ⟨k, hk, rfl⟩ := Option.map_eq_some_iff.mp hx
      -- the sum
      repeat walk_at "rd"
      exact ⟨_, _, rfl, Int.emod_nonneg _ (by decide), Int.emod_lt_of_pos _ (by decide), e2⟩
    · obtain ⟨m, y, rfl, h0, h1, e2⟩ := hp
      -- return [list(script[:63]), 0, 0, mixed, 0]
      have hS1 : SqL K H' a (ns.map V.int) := ex_l (e1.trans e2) hS
      refine ⟨_, rfl, 63, rfl, a, _, rfl, hS1, fun p2 np2 => ?_⟩
      rw [hc]
      refine ⟨p2, _, rfl, .inl (sq_of upd_same), fun p3 np3 => ?_⟩
      refine ⟨_, rfl, by show 5 ≤ sizeLine; decide, fun b nb => ?_⟩
      have ex : Ex H _ := (((e1.trans e2).trans (Ex.new np2)).trans (Ex.new np3)).trans (Ex.new (o := HO.lst [.ref p3, .int 0, .int 0, .int m, .int 0]) nb)
      refine q b _ (fresh_back (((e1.trans e2).trans (Ex.new np2)).trans (Ex.new np3)) nb) ⟨p3, ns.take 63, 0, 0, m, 0, fresh_back (((e1.trans e2).trans (Ex.new np2)).trans (Ex.new np3)) nb, fresh_back ((e1.trans e2).trans (Ex.new np2)) np3, ex, upd_same, ?_, ?_, by omega, by omega, by omega, by omega⟩
      · have hb : p3 ≠ b := ne_of_none upd_same nb
        rw [upd_ne hb, upd_same]
      · exact ne_of_none upd_same nb
theorem ok_law_draw {AA : Adr} (T : Txt K mg AA) : Pr P w K mg base "_law_draw" s_law_draw p_law_draw 1 spDraw := by
  refine pr_mk T.f_law_draw sc_law_draw (fun vs H Q E h => ?_) (fun f cdv A outer s H vs Q E hr h => ?_)
  · obtain ⟨b, z, G, rfl, _⟩ := h
    rfl
  · obtain ⟨b, z, G, rfl, ⟨c, ns, i, r, m, n, B⟩, hz0, hz1, q⟩ := h
    refine ⟨_, (pss_cons (ps_asg (pe_op op_add (pe_ix (ix_listK (K := K) rfl) (pv 0) pe_int (fun _ _ => rfl)) pe_int) (pg_sub (pv 0) pe_int set_list))
      (Evl.pss_cut (ps_if (PW.pt (pw_and (pt_cmpR op_eq (pe_ix (ix_listK (K := K) rfl) (pv 0) pe_int (fun _ _ => rfl)) pe_int (nomark _)) (pw_and1 (pt_cmpR op_lt (pe_ix (ix_listK (K := K) rfl) (pv 0) pe_int (fun _ _ => rfl)) (pe_callB call_len_seq (by rfl) T.n_len PySem.boot_len (pa_cons (pe_ix (ix_listK (K := K) rfl) (pv 0) pe_int (fun _ _ => rfl)) pa_nil)) (nomark _)))))
      (pss_cons (ps_set (i := 2) sc_law_draw.nd rfl (.inl rfl) (pe_callB call_abs (by rfl) T.n_abs PyProof.Rows.boot_abs (pa_cons (pe_callTy call_int1 (by rfl) T.n_int PyProof.Rows.boot_int (pa_cons (pe_ix (ix_listK (K := K) rfl) (pe_ix (ix_listK (K := K) rfl) (pv 0) pe_int (fun _ _ => rfl)) (pe_ix (ix_listK (K := K) rfl) (pv 0) pe_int (fun _ _ => rfl)) (fun _ _ => rfl)) pa_nil)) pa_nil)))
      (pss_cons (ps_asg (pe_op op_add (pe_ix (ix_listK (K := K) rfl) (pv 0) pe_int (fun _ _ => rfl)) pe_int) (pg_sub (pv 0) pe_int set_list))
      (pss_one (ps_if (pt_cmpR op_ge (pv 2) (pe_op op_pow pe_int pe_int) (nomark _))
      (pss_one (ps_asg (pv 2) (pg_sub (pv 0) pe_int set_list)))
      (pss_one (ps_asg (pe_op op_mod (pe_callTy call_int1 (by rfl) T.n_int PyProof.Rows.boot_int (pa_cons (pe_op op_add (pe_op op_add (pe_op op_mul (pe_ix (ix_listK (K := K) rfl) (pv 0) pe_int (fun _ _ => rfl)) pe_int) (pe_op op_mul (pe_op op_mod (pv 2) pe_int) pe_int)) pe_int) pa_nil)) pe_int) (pg_sub (pv 0) pe_int set_list)))))))
      pss_nil)
      (pss_cons (ps_if (pt_cmpR op_gt (pe_ix (ix_listK (K := K) rfl) (pv 0) pe_int (fun _ _ => rfl)) pe_int (nomark _))
      (pss_cons (ps_set (i := 3) sc_law_draw.nd rfl (.inl rfl) (pe_op op_mod (pe_callTy call_int1 (by rfl) T.n_int PyProof.Rows.boot_int (pa_cons (pe_ix (ix_listK (K := K) rfl) (pv 0) pe_int (fun _ _ => rfl)) pa_nil)) (pv 1)))
      (pss_cons (ps_asg (pe_op op_fdiv (pe_ix (ix_listK (K := K) rfl) (pv 0) pe_int (fun _ _ => rfl)) (pv 1)) (pg_sub (pv 0) pe_int set_list))
      (pss_one (ps_ret (pv 3)))))
      pss_nil)
      (pss_cons (ps_set (i := 4) sc_law_draw.nd rfl (.inl rfl) (pe_callTy call_int1 (by rfl) T.n_int PyProof.Rows.boot_int (pa_cons (pe_ix (ix_listK (K := K) rfl) (pv 0) pe_int (fun _ _ => rfl)) pa_nil)))
      (pss_cons (ps_asg (pe_op op_mod (pe_callTy call_int1 (by rfl) T.n_int PyProof.Rows.boot_int (pa_cons (pe_op op_add (pe_op op_add (pe_op op_add (pe_op op_mul (pe_op op_mul (pv 4) (pv 4)) pe_int) (pe_op op_mul (pv 4) pe_int)) (pe_op op_mul (pe_ix (ix_listK (K := K) rfl) (pv 0) pe_int (fun _ _ => rfl)) pe_int)) pe_int) pa_nil)) pe_int) (pg_sub (pv 0) pe_int set_list))
      (pss_one (ps_ret (pe_op op_mod (pe_callTy call_int1 (by rfl) T.n_int PyProof.Rows.boot_int (pa_cons (pe_op op_add (pe_op op_fdiv (pe_ix (ix_listK (K := K) rfl) (pv 0) pe_int (fun _ _ => rfl)) pe_int) (pe_op op_mul (pe_op op_mod (pe_callTy call_int1 (by rfl) T.n_int PyProof.Rows.boot_int (pa_cons (pe_ix (ix_listK (K := K) rfl) (pv 0) pe_int (fun _ _ => rfl)) pa_nil)) pe_int) pe_int)) pa_nil)) (pv 1))))))))), ?_⟩
    -- bag[4] = bag[4] + 1
    refine ⟨_, rfl, b, _, 4, _, rfl, rfl, sq_of B.at_, rfl, n, 1, rfl, rfl, _, rfl, b, _, 4, 4, rfl, rfl, B.at_, rfl, ?_⟩
    have B1 := B.set (n' := n + 1) B.i0 B.r0 B.m0 B.m1
    generalize hH1 : upd H b _ = H1
    rw [show ([V.ref c, .int i, .int r, .int m, .int n].set 4 (.int (n + 1))) = [V.ref c, .int i, .int r, .int m, .int (n + 1)] from rfl] at hH1
    rw [hH1] at B1
    clear hH1 B
    generalize n + 1 = n at B1
    -- the first if: Mid
    refine ⟨fun σ H' => ∃ (y2 y3 y4 : Option V), σ = [some (.ref b), some (.int z), y2, y3, y4] ∧ At b G H', ?_, fun σ H' hM => ?_⟩
    · refine ⟨_, rfl, b, _, 2, _, rfl, rfl, sq_of B1.at_, rfl, rfl, _, rfl, ite2 (fun hr0 => ?_) (fun hr0 => ?_)⟩
      · refine ⟨_, rfl, b, _, 1, _, rfl, rfl, sq_of B1.at_, rfl, _, rfl, b, _, 0, _, rfl, rfl, sq_of B1.at_, rfl, c, _, rfl, .inl (sq_of B1.cells), i, _, rfl, rfl, _, rfl, ite2 (fun hi => ?_) (fun hi => ?_)⟩
        · have hi : i < ((ns.map V.int).length : Int) := of_decide_eq_true hi
          have hi2 : i.toNat < ns.length := by
            rw [List.length_map] at hi
            have := B1.i0
            omega
          have g : (ns.map V.int)[i.toNat]? = some (.int ns[i.toNat]) := by
            rw [List.getElem?_map, List.getElem?_eq_getElem hi2]
            rfl
          have g2 : atI (ns.map V.int) i = some (.int ns[i.toNat]) := at_of (j := i.toNat) (by have := B1.i0; omega) g
          generalize ns[i.toNat] = x at g2
          -- piece = abs(int(bag[0][bag[1]]))
          refine ⟨_, rfl, b, _, 0, _, rfl, rfl, sq_of B1.at_, rfl, _, rfl, b, _, 1, _, rfl, rfl, sq_of B1.at_, rfl, c, _, i, _, rfl, rfl, sq_of B1.cells, g2, .inl ⟨x, rfl, x, rfl, ?_⟩⟩
          generalize hy : (if x < 0 then -x else x) = y
          have hy0 : 0 ≤ y := by
            rw [← hy]
            split <;> omega
          -- bag[1] = bag[1] + 1
          refine ⟨_, rfl, b, _, 1, _, rfl, rfl, sq_of B1.at_, rfl, i, 1, rfl, rfl, _, rfl, b, _, 1, 1, rfl, rfl, B1.at_, rfl, ?_⟩
          have B2 := B1.set (i' := i + 1) (n' := n) (by have := B1.i0; omega) B1.r0 B1.m0 B1.m1
          -- if piece >= 10 ** 18
          refine ⟨_, rfl, 10, 18, rfl, rfl, ⟨by decide, by decide, by decide⟩, _, _, rfl, rfl, _, rfl, ite2 (fun hp => ?_) (fun hp => ?_)⟩
          · refine ⟨_, rfl, _, rfl, b, _, 2, 2, rfl, rfl, B2.at_, rfl, _, _, _, rfl, _, _, _, _, _, _, B2.set (r' := y) (n' := n) B2.i0 hy0 B2.m0 B2.m1⟩
          · refine ⟨_, rfl, b, _, 3, _, rfl, rfl, sq_of B2.at_, rfl, m, 40014, rfl, rfl, .inr ⟨by decide, by decide⟩, _, rfl, ?_⟩
            repeat walk_at "rd"
            refine ⟨b, _, 3, 3, rfl, rfl, B2.at_, rfl, _, _, _, rfl, _, _, _, _, _, _, B2.set (n' := n) (m' := (m * 40014 + y % 999979 * 613 + 29) % 2147483579) B2.i0 B2.r0 (Int.emod_nonneg _ (by decide)) (Int.lt_trans (Int.emod_lt_of_pos _ (by decide)) (by decide))⟩
        · exact ⟨_, _, _, rfl, c, ns, i, r, m, n, B1⟩
      · exact ⟨_, _, _, rfl, c, ns, i, r, m, n, B1⟩
    · obtain ⟨y2, y3, y4, rfl, c, ns, i, r, m, n, B⟩ := hM
      -- if bag[2] > 0
      refine ⟨_, rfl, b, _, 2, _, rfl, rfl, sq_of B.at_, rfl, r, 0, rfl, rfl, _, rfl, ite2 (fun hr1 => ?_) (fun hr1 => ?_)⟩
      · have hr1 : 0 < r := of_decide_eq_true hr1
        refine ⟨_, rfl, b, _, 2, _, rfl, rfl, sq_of B.at_, rfl, .inl ⟨r, rfl, _, rfl, r, z, rfl, rfl, hz0, ?_⟩⟩
        refine ⟨_, rfl, b, _, 2, _, rfl, rfl, sq_of B.at_, rfl, _, rfl, r, z, rfl, rfl, ⟨hz0, hz1⟩, _, rfl, b, _, 2, 2, rfl, rfl, B.at_, rfl, _, rfl, ?_⟩
        exact q _ _ (Int.emod_nonneg _ (by omega)) (Int.emod_lt_of_pos _ hz0) ⟨_, _, _, _, _, _, B.set (r' := r / z) (n' := n) B.i0 (Int.ediv_nonneg B.r0 (by omega)) B.m0 B.m1⟩
      · refine ⟨_, rfl, b, _, 3, _, rfl, rfl, sq_of B.at_, rfl, .inl ⟨m, rfl, ?_⟩⟩
        have hm : -(2 ^ 64) < m ∧ m < 2 ^ 64 := ⟨Int.lt_of_lt_of_le (by decide) B.m0, Int.lt_trans B.m1 (by decide)⟩
        refine ⟨_, rfl, _, rfl, m, m, rfl, rfl, .inl hm, _, _, rfl, rfl, .inr ⟨by decide, by decide⟩, _, rfl, _, _, rfl, rfl, .inr ⟨by decide, by decide⟩, _, _, rfl, rfl, _, rfl, b, _, 4, _, rfl, rfl, sq_of B.at_, rfl, _, _, rfl, rfl, .inr ⟨by decide, by decide⟩, _, _, rfl, rfl, _, _, rfl, rfl, .inl ⟨_, rfl, _, _, rfl, rfl, (show (0 : Int) < _ by decide), _, rfl, b, _, 3, 3, rfl, rfl, B.at_, rfl, ?_⟩⟩
        have B2 := B.set (n' := n) (m' := (m * m * 31 + m * 52774 + n * 130363 + 70001) % 2147483629) B.i0 B.r0 (Int.emod_nonneg _ (by decide)) (Int.lt_trans (Int.emod_lt_of_pos _ (by decide)) (by decide))
        refine ⟨_, rfl, b, _, 3, _, rfl, rfl, sq_of B2.at_, rfl, _, 71, rfl, rfl, ⟨by decide, by decide⟩, _, rfl, b, _, 3, _, rfl, rfl, sq_of B2.at_, rfl, .inl ⟨_, rfl, _, 9001, rfl, rfl, (show (0 : Int) < _ by decide), _, _, rfl, rfl, .inr ⟨by decide, by decide⟩, _, _, rfl, rfl, .inl ⟨_, rfl, _, rfl, _, _, rfl, rfl, hz0, ?_⟩⟩⟩
        exact q _ _ (Int.emod_nonneg _ (by omega)) (Int.emod_lt_of_pos _ hz0) ⟨_, _, _, _, _, _, B2⟩
def SeqV (K : PySem.W.Frag) (H : Hp) (x : V) (items : List V) : Prop :=
  (∃ p, x = .ref p ∧ SqL K H p items) ∨ (∃ p, x = .ref p ∧ SqT K H p items) ∨ ∃ z : Str, x = .str z ∧ z.length ≤ sizeLine ∧ items = z.cps.toList.map fun c => V.str ⟨#[c]⟩
theorem SeqV.mono {H H' : Hp} {x : V} {items : List V} (h : SeqV K H x items) (e : Ex H H') : SeqV K H' x items := by
  rcases h with ⟨p, hx, h⟩ | ⟨p, hx, h⟩ | h
  · exact .inl ⟨p, hx, ex_l e h⟩
  · exact .inr (.inl ⟨p, hx, ex_t e h⟩)
  · exact .inr (.inr h)
theorem SeqV.len {H : Hp} {x : V} {items : List V} (h : SeqV K H x items) : LenV K x H items.length := by
  rcases h with ⟨p, rfl, h⟩ | ⟨p, rfl, h⟩ | ⟨z, rfl, hz, e⟩
  · exact .inl ⟨_, h, rfl⟩
  · exact .inr ⟨_, h, rfl⟩
  · refine ⟨hz, ?_⟩
    rw [e, List.length_map, Array.length_toList]
    rfl
theorem SeqV.item {H : Hp} {x : V} {items : List V} {d : Int} {v : V} {Q : VK} (h : SeqV K H x items) (hd : 0 ≤ d) (hv : items[d.toNat]? = some v) (q : Q v H) : rIx K x (.int d) H Q := by
  rcases h with ⟨p, rfl, h⟩ | ⟨p, rfl, h⟩ | ⟨z, rfl, hz, e⟩
  · exact .inl ⟨p, _, d, v, rfl, rfl, h, at_of (j := d.toNat) (by omega) hv, q⟩
  · exact .inr (.inl ⟨p, _, d, v, rfl, rfl, h, at_of (j := d.toNat) (by omega) hv, q⟩)
  · subst e
    rw [List.getElem?_map] at hv
    obtain ⟨c, hc, rfl⟩ := Option.map_eq_some_iff.mp hv
    exact .inr (.inr ⟨z, d, c, rfl, rfl, hz, at_of' (by omega) hc, q⟩)
def spOf (K : PySem.W.Frag) : Sp := fun vs H Q _ => ∃ (b : Addr) (x : V) (G : Hp) (items : List V), vs = [.ref b, x] ∧ At b G H ∧ SeqV K G x items ∧ 0 < items.length ∧ items.length < 1073741824 ∧ ∀ v H', v ∈ items → At b G H' → Q v H'
theorem ok_law_of {AA : Adr} (T : Txt K mg AA) : Pr P w K mg base "_law_of" s_law_of p_law_of 2 (spOf K) := by
  refine pr_mk T.f_law_of sc_law_of (fun vs H Q E h => ?_) (fun f cdv A outer s H vs Q E hr h => ?_)
  · obtain ⟨b, x, G, items, rfl, _⟩ := h
    rfl
  · obtain ⟨b, x, G, items, rfl, hA, hx, h0, h1, q⟩ := h
    refine ⟨_, (pss_one (ps_ret (pe_ix (ix_seqK (K := K) rfl) (pv 1) (pcall (ok_law_draw T) hr (pa_cons (pv 0) (pa_cons (pe_callB call_len (by rfl) T.n_len PySem.boot_len (pa_cons (pv 1) pa_nil)) pa_nil))) (fun _ _ => rfl)))), ?_⟩
    refine ⟨_, rfl, _, rfl, _, rfl, x, _, rfl, (hx.mono hA.ex).len, b, _, G, rfl, hA, by omega, by omega, fun d H' d0 d1 hA' => ?_⟩
    have hd : d.toNat < items.length := by omega
    exact (hx.mono hA'.ex).item d0 (List.getElem?_eq_getElem hd) (q _ _ (List.getElem_mem hd) hA')
end
end Eyes

set_option Elab.async false
set_option linter.all false
set_option maxRecDepth 100000
set_option maxHeartbeats 4000000
namespace Eyes
open PySem PySem.Spec PyProof.Rows L2 Evl
/-! ### data in the heap -/
mutual
inductive Rep (H : Hp) : V → PyData → Prop
  | non : Rep H .non .none
  | bl (b : Bool) : Rep H (.bl b) (.bool b)
  | int (i : Int) : Rep H (.int i) (.int i)
  | str (x : Str) : Rep H (.str x) (.str x)
  | lst {a : Addr} {xs : List V} {ds : List PyData} : H a = some (.lst xs) → Reps H xs ds → Rep H (.ref a) (.list ds)
  | tup {a : Addr} {xs : List V} {ds : List PyData} : H a = some (.tup xs) → Reps H xs ds → Rep H (.ref a) (.tuple ds)
inductive Reps (H : Hp) : List V → List PyData → Prop
  | nil : Reps H [] []
  | cons {v : V} {vs : List V} {d : PyData} {ds : List PyData} : Rep H v d → Reps H vs ds → Reps H (v :: vs) (d :: ds)
end
mutual
theorem Rep.mono {H H' : Hp} (e : Ex H H') : ∀ {v : V} {d : PyData}, Rep H v d → Rep H' v d
  | _, _, .non => .non
  | _, _, .bl b => .bl b
  | _, _, .int i => .int i
  | _, _, .str x => .str x
  | _, _, .lst h r => .lst (e _ _ h) (Reps.mono e r)
  | _, _, .tup h r => .tup (e _ _ h) (Reps.mono e r)
theorem Reps.mono {H H' : Hp} (e : Ex H H') : ∀ {v : List V} {d : List PyData}, Reps H v d → Reps H' v d
  | _, _, .nil => .nil
  | _, _, .cons h r => .cons (Rep.mono e h) (Reps.mono e r)
end
theorem Reps.length {H : Hp} : ∀ {xs : List V} {ds : List PyData}, Reps H xs ds → xs.length = ds.length
  | _, _, .nil => rfl
  | _, _, .cons _ r => congrArg Nat.succ (Reps.length r)
theorem Reps.get {H : Hp} : ∀ {xs : List V} {ds : List PyData} {i : Nat} {x : V}, Reps H xs ds → xs[i]? = some x → ∃ d, ds[i]? = some d ∧ Rep H x d
  | _, _, _, _, .nil, e => by simp at e
  | _, _, 0, _, .cons h _, e => by
    simp at e
    subst e
    exact ⟨_, rfl, h⟩
  | _, _, i + 1, x, .cons _ r, e => by
    obtain ⟨d, h1, h2⟩ := Reps.get (i := i) (x := x) r (by simpa using e)
    exact ⟨d, by simpa using h1, h2⟩
theorem Reps.of_bl {H : Hp} : ∀ bs : List Bool, Reps H (bs.map V.bl) (bs.map PyData.bool)
  | [] => .nil
  | b :: bs => .cons (.bl b) (Reps.of_bl bs)
theorem depth_get : ∀ {ds : List PyData} {i : Nat} {d : PyData}, ds[i]? = some d → d.depth ≤ PyData.depthAll ds
  | [], _, _, e => by simp at e
  | x :: xs, 0, _, e => by
    simp at e
    subst e
    exact Nat.le_max_left _ _
  | x :: xs, i + 1, d, e => Nat.le_trans (depth_get (ds := xs) (i := i) (by simpa using e)) (Nat.le_max_right _ _)
mutual
def wid : PyData → Nat
  | .list xs => max xs.length (widAll xs)
  | .tuple xs => max xs.length (widAll xs)
  | .dict _ => 0
  | .none => 0
  | .bool _ => 0
  | .int _ => 0
  | .str _ => 0
def widAll : List PyData → Nat
  | [] => 0
  | x :: xs => max (wid x) (widAll xs)
end
theorem wid_get : ∀ {ds : List PyData} {i : Nat} {d : PyData}, ds[i]? = some d → wid d ≤ widAll ds
  | [], _, _, e => by simp at e
  | x :: xs, 0, _, e => by
    simp at e
    subst e
    exact Nat.le_max_left _ _
  | x :: xs, i + 1, d, e => Nat.le_trans (wid_get (ds := xs) (i := i) (by simpa using e)) (Nat.le_max_right _ _)
def tyD : PyData → String
  | .none => "NoneType" | .bool _ => "bool" | .int _ => "int" | .str _ => "str" | .list _ => "list" | .tuple _ => "tuple" | .dict _ => "dict"
theorem Rep.ty {K : PySem.W.Frag} {H : Hp} {v : V} {d : PyData} (h : Rep H v d) : TyX K H v (.type (tyD d)) := by
  cases h with
  | non => exact .base .non
  | bl b => exact .base (.bl b)
  | int b => exact .base (.int b)
  | str b => exact .base (.str b)
  | lst h _ => exact .base (.lst h)
  | tup h _ => exact .base (.tup h)
theorem kit_t (K : PySem.W.Frag) {a b : String} (h : (kitB a b).isSome = true) : ∃ r, PySem.W.kitOne K (.type a) (.type b) = some r := by
  obtain ⟨r, e⟩ := Option.isSome_iff_exists.mp h
  exact ⟨r, kit_ty e⟩
theorem kit_list (K : PySem.W.Frag) : ∀ d : PyData, ∃ b, PySem.W.kitOne K (.type (tyD d)) (.type "list") = some b
  | .none => kit_t K (a := "NoneType") (by decide +kernel) | .bool _ => kit_t K (a := "bool") (by decide +kernel) | .int _ => kit_t K (a := "int") (by decide +kernel) | .str _ => kit_t K (a := "str") (by decide +kernel)
  | .list _ => kit_t K (a := "list") (by decide +kernel) | .tuple _ => kit_t K (a := "tuple") (by decide +kernel) | .dict _ => kit_t K (a := "dict") (by decide +kernel)
theorem kit_tuple (K : PySem.W.Frag) : ∀ d : PyData, ∃ b, PySem.W.kitOne K (.type (tyD d)) (.type "tuple") = some b
  | .none => kit_t K (a := "NoneType") (by decide +kernel) | .bool _ => kit_t K (a := "bool") (by decide +kernel) | .int _ => kit_t K (a := "int") (by decide +kernel) | .str _ => kit_t K (a := "str") (by decide +kernel)
  | .list _ => kit_t K (a := "list") (by decide +kernel) | .tuple _ => kit_t K (a := "tuple") (by decide +kernel) | .dict _ => kit_t K (a := "dict") (by decide +kernel)
theorem kit_bool (K : PySem.W.Frag) : ∀ d : PyData, ∃ b, PySem.W.kitOne K (.type (tyD d)) (.type "bool") = some b
  | .none => kit_t K (a := "NoneType") (by decide +kernel) | .bool _ => kit_t K (a := "bool") (by decide +kernel) | .int _ => kit_t K (a := "int") (by decide +kernel) | .str _ => kit_t K (a := "str") (by decide +kernel)
  | .list _ => kit_t K (a := "list") (by decide +kernel) | .tuple _ => kit_t K (a := "tuple") (by decide +kernel) | .dict _ => kit_t K (a := "dict") (by decide +kernel)
theorem kit_int (K : PySem.W.Frag) : ∀ d : PyData, ∃ b, PySem.W.kitOne K (.type (tyD d)) (.type "int") = some b
  | .none => kit_t K (a := "NoneType") (by decide +kernel) | .bool _ => kit_t K (a := "bool") (by decide +kernel) | .int _ => kit_t K (a := "int") (by decide +kernel) | .str _ => kit_t K (a := "str") (by decide +kernel)
  | .list _ => kit_t K (a := "list") (by decide +kernel) | .tuple _ => kit_t K (a := "tuple") (by decide +kernel) | .dict _ => kit_t K (a := "dict") (by decide +kernel)
theorem kit_str (K : PySem.W.Frag) : ∀ d : PyData, ∃ b, PySem.W.kitOne K (.type (tyD d)) (.type "str") = some b
  | .none => kit_t K (a := "NoneType") (by decide +kernel) | .bool _ => kit_t K (a := "bool") (by decide +kernel) | .int _ => kit_t K (a := "int") (by decide +kernel) | .str _ => kit_t K (a := "str") (by decide +kernel)
  | .list _ => kit_t K (a := "list") (by decide +kernel) | .tuple _ => kit_t K (a := "tuple") (by decide +kernel) | .dict _ => kit_t K (a := "dict") (by decide +kernel)
theorem kit_scal (K : PySem.W.Frag) {a : String} (h1 : kitB a "list" = some false) (h2 : kitB a "tuple" = some false) : PySem.W.kitAny K (.type a) [.type "list", .type "tuple"] = some false :=
  kitAny_cons (b := false) (kit_ty h1) (fun _ => kitAny_cons (b := false) (kit_ty h2) (fun _ => kitAny_nil) (fun z => nomatch z)) (fun z => nomatch z)
def seqD : PyData → Bool
  | .list _ => true | .tuple _ => true | _ => false
theorem kit_seq (K : PySem.W.Frag) : ∀ d : PyData, PySem.W.kitAny K (.type (tyD d)) [.type "list", .type "tuple"] = some (seqD d)
  | .none => kit_scal K (a := "NoneType") (by decide +kernel) (by decide +kernel) | .bool _ => kit_scal K (a := "bool") (by decide +kernel) (by decide +kernel)
  | .int _ => kit_scal K (a := "int") (by decide +kernel) (by decide +kernel) | .str _ => kit_scal K (a := "str") (by decide +kernel) (by decide +kernel) | .dict _ => kit_scal K (a := "dict") (by decide +kernel) (by decide +kernel)
  | .list _ => kitAny_cons (b := true) (kit_ty (a := "list") (by decide +kernel)) (fun z => nomatch z) (fun _ => rfl)
  | .tuple _ => kitAny_cons (b := false) (kit_ty (a := "tuple") (by decide +kernel)) (fun _ => kitAny_cons (b := true) (kit_ty (a := "tuple") (by decide +kernel)) (fun z => nomatch z) (fun _ => rfl)) (fun z => nomatch z)
theorem walk_zipT {K : PySem.W.Frag} {a b : Addr} {xs ys : List V} {n : Nat} (hn : n = min xs.length ys.length) : Walk (RZ.ItzT K a b) n (fun H => SqT K H a xs ∧ SqT K H b ys) (YPair (fun i => xs[i]?) (fun i => ys[i]?)) := by
  subst hn
  refine ⟨fun i _ hi q => ?_, fun _ q => ⟨xs, ys, q.1, q.2, by omega⟩, fun i H v H' _ q y => ?_⟩
  · have h1 : i < xs.length := by omega
    have h2 : i < ys.length := by omega
    exact ⟨xs, ys, xs[i], ys[i], q.1, q.2, by simp [h1], by simp [h2]⟩
  · obtain ⟨T, x, z, h1, h2, h3, h4, h5⟩ := y
    exact ⟨T, x, z, h1, h2, h3, h4 xs q.1, h5 ys q.2⟩
theorem iteDT {c A B : Prop} [Decidable c] (hc : c) (h : A) : if decide c = true then A else B := by
  rw [decide_eq_true hc, if_pos rfl]
  exact h
def spSame (n : Nat) : Sp := fun vs H Q _ => ∃ (x y : V) (d : PyData), vs = [x, y] ∧ Rep H x d ∧ Rep H y d ∧ d.depth < n ∧ wid d ≤ 90000 ∧ ∀ H', Ex H H' → Q (.bl true) H'
section
variable {P : Program} {w : World} {K : PySem.W.Frag} {mg : Str → Option Value} {base : Heap}
theorem ok_law_same {AA : Adr} (T : Txt K mg AA) : ∀ n : Nat, Pr P w K mg base "_law_same" s_law_same p_law_same n (spSame n)
  | 0 => by
    obtain ⟨f, fd, F, hb, hm⟩ := T.f_law_same
    exact ⟨f, fd, hm, F, hb, fun vs H Q E h => by
      obtain ⟨x, y, d, _, _, _, h, _⟩ := h
      omega, fun A outer s H args us vs Q E _ _ _ _ h => by
      obtain ⟨x, y, d, _, _, _, h, _⟩ := h
      omega⟩
  | n + 1 => by
    have G := ok_law_same T n
    refine pr_mk T.f_law_same sc_law_same (fun vs H Q E h => ?_) (fun f cdv A outer s H vs Q E hr h => ?_)
    · obtain ⟨x, y, d, rfl, _⟩ := h
      rfl
    · obtain ⟨x, y, d, rfl, hx, hy, hd, hwd, q⟩ := h
      refine ⟨_, (pss_cons (ps_if (PW.pt (pw_or (pt_cmpR op_isN (pv 1) pe_non (nomark _)) (pw_or1 (pt_cmpR op_isN (pv 0) pe_non (nomark _)))))
      (pss_one (ps_ret (pe_and (pe_cmpR op_isN (pv 1) pe_non (nomark _)) (pe_one (pe_cmpR op_isN (pv 0) pe_non (nomark _))))))
      pss_nil)
      (pss_cons (ps_if (pt_val (pe_callB call_isiT (by rfl) T.n_isinstance PyProof.Rows.boot_isinstance (pa_cons (pv 1) (pa_cons (pe_tup (pa_cons (pe_bltn (v := .ty "list") (by rfl) T.n_list (by decide +kernel) rfl) (pa_cons (pe_bltn (v := .ty "tuple") (by rfl) T.n_tuple (by decide +kernel) rfl) pa_nil))) pa_nil))))
      (pss_cons (ps_if (PW.pt (pw_or (pt_cmpR op_ne (pe_callB call_isi (by rfl) T.n_isinstance PyProof.Rows.boot_isinstance (pa_cons (pv 0) (pa_cons (pe_bltn (v := .ty "list") (by rfl) T.n_list (by decide +kernel) rfl) pa_nil))) (pe_callB call_isi (by rfl) T.n_isinstance PyProof.Rows.boot_isinstance (pa_cons (pv 1) (pa_cons (pe_bltn (v := .ty "list") (by rfl) T.n_list (by decide +kernel) rfl) pa_nil))) (nomark _)) (pw_or1 (pt_cmpR op_ne (pe_callB call_isi (by rfl) T.n_isinstance PyProof.Rows.boot_isinstance (pa_cons (pv 0) (pa_cons (pe_bltn (v := .ty "tuple") (by rfl) T.n_tuple (by decide +kernel) rfl) pa_nil))) (pe_callB call_isi (by rfl) T.n_isinstance PyProof.Rows.boot_isinstance (pa_cons (pv 1) (pa_cons (pe_bltn (v := .ty "tuple") (by rfl) T.n_tuple (by decide +kernel) rfl) pa_nil))) (nomark _)))))
      (pss_one (ps_ret pe_bl))
      pss_nil)
      (pss_one (ps_ret (pe_and (pe_cmpR op_eq (pe_callB call_len (by rfl) T.n_len PySem.boot_len (pa_cons (pv 0) pa_nil)) (pe_callB call_len (by rfl) T.n_len PySem.boot_len (pa_cons (pv 1) pa_nil)) (nomark _)) (pe_one (pe_callB (cr_all rfl) (by rfl) T.n_all PyProof.Rows.boot_all (pa_cons (pe_lc (own := [("_law_x", 3), ("_law_y", 4)]) (g := gTup K 2 (gCons (gName 3) (gCons (gName 4) gNil))) (tt := tYes) rfl sc_law_same.nd (RZ.pi_zipA (by rfl) T.n_zip (pa_cons (pv 0) (pa_cons (pv 1) pa_nil))) (blkOk_by (own := [("_law_x", 3), ("_law_y", 4)]) (N := n_law_same) (sc := defScope s_law_same) (by decide +kernel)) (fun _ _ _ _ _ => (pg_tup (by rfl) (pgs_cons (pg_name (i := 3) sc_law_same.nd rfl (.inl rfl)) (pgs_cons (pg_name (i := 4) sc_law_same.nd rfl (.inl rfl)) pgs_nil)))) (fun _ _ _ _ _ => pts_nil) (fun _ _ _ _ _ => (pcall G hr (pa_cons (pv 3) (pa_cons (pv 4) pa_nil))))) pa_nil)))))))
      pss_nil)
      (pss_cons (ps_if (pt_val (pe_callB call_isi (by rfl) T.n_isinstance PyProof.Rows.boot_isinstance (pa_cons (pv 1) (pa_cons (pe_bltn (v := .ty "dict") (by rfl) T.n_dict (by decide +kernel) rfl) pa_nil))))
      pss_never
      pss_nil)
      (pss_cons (ps_if (PW.pt (pw_or (pt_cmpR op_ne (pe_callB call_isi (by rfl) T.n_isinstance PyProof.Rows.boot_isinstance (pa_cons (pv 1) (pa_cons (pe_bltn (v := .ty "bool") (by rfl) T.n_bool (by decide +kernel) rfl) pa_nil))) (pe_callB call_isi (by rfl) T.n_isinstance PyProof.Rows.boot_isinstance (pa_cons (pv 0) (pa_cons (pe_bltn (v := .ty "bool") (by rfl) T.n_bool (by decide +kernel) rfl) pa_nil))) (nomark _)) (pw_or1 (pt_cmpR op_ne (pe_callB call_isi (by rfl) T.n_isinstance PyProof.Rows.boot_isinstance (pa_cons (pv 1) (pa_cons (pe_bltn (v := .ty "int") (by rfl) T.n_int (by decide +kernel) rfl) pa_nil))) (pe_callB call_isi (by rfl) T.n_isinstance PyProof.Rows.boot_isinstance (pa_cons (pv 0) (pa_cons (pe_bltn (v := .ty "int") (by rfl) T.n_int (by decide +kernel) rfl) pa_nil))) (nomark _)))))
      (pss_one (ps_ret pe_bl))
      pss_nil)
      (pss_one (ps_ret (pe_and (pe_cmpR op_eq (pe_callB call_isi (by rfl) T.n_isinstance PyProof.Rows.boot_isinstance (pa_cons (pv 1) (pa_cons (pe_bltn (v := .ty "str") (by rfl) T.n_str (by decide +kernel) rfl) pa_nil))) (pe_callB call_isi (by rfl) T.n_isinstance PyProof.Rows.boot_isinstance (pa_cons (pv 0) (pa_cons (pe_bltn (v := .ty "str") (by rfl) T.n_str (by decide +kernel) rfl) pa_nil))) (nomark _)) (pe_one (pe_cmpR op_eq (pv 0) (pv 1) (nomark _)))))))))), ?_⟩
      obtain ⟨kl, hkl⟩ := kit_list K d
      obtain ⟨kt, hkt⟩ := kit_tuple K d
      obtain ⟨kb, hkb⟩ := kit_bool K d
      obtain ⟨ki, hki⟩ := kit_int K d
      obtain ⟨ks, hks⟩ := kit_str K d
      -- if due is None or found is None
      refine ⟨_, rfl, rfl, _, rfl, ?_⟩
      by_cases hn : d = .none
      · subst hn
        cases hx
        cases hy
        refine iteT ?_
        refine iteT ?_
        refine ⟨_, rfl, rfl, _, rfl, iteT ?_⟩
        refine ⟨_, rfl, rfl, ?_⟩
        exact q _ (Ex.refl _)
      · have hxn : decide (x = V.non) = false := decide_eq_false fun e => by
          subst e
          cases hx
          exact hn rfl
        have hyn : decide (y = V.non) = false := decide_eq_false fun e => by
          subst e
          cases hy
          exact hn rfl
        rw [hyn]
        refine iteF ?_
        refine ⟨_, rfl, rfl, _, rfl, ?_⟩
        rw [hxn]
        refine iteF ?_
        -- if isinstance(due, (list, tuple))
        refine ⟨_, rfl, by show 2 ≤ sizeLine; decide, fun t1 ht1 => ?_⟩
        have e1 : Ex H (upd H t1 (.tup [.ty "list", .ty "tuple"])) := Ex.new ht1
        have hx := Rep.mono e1 hx
        have hy := Rep.mono e1 hy
        refine ⟨y, t1, [.ty "list", .ty "tuple"], _, [.type "list", .type "tuple"], _, rfl, upd_same, .cons (.ty _) (.cons (.ty _) .nil), hy.ty, kit_seq K d, _, rfl, ?_⟩
        generalize upd H t1 (.tup [.ty "list", .ty "tuple"]) = H1 at e1 hx hy
        cases hs : seqD d with
        | false =>
          refine iteF ?_
          have fl : PySem.W.kitOne K (.type (tyD d)) (.type "dict") = some false ∧ x = y ∧ scal x y = true := by
            cases hx with
            | non => exact absurd rfl hn
            | bl b => cases hy; exact ⟨kit_ty (a := "bool") (by decide +kernel), rfl, rfl⟩
            | int b => cases hy; exact ⟨kit_ty (a := "int") (by decide +kernel), rfl, rfl⟩
            | str b => cases hy; exact ⟨kit_ty (a := "str") (by decide +kernel), rfl, rfl⟩
            | lst _ _ => cases hs
            | tup _ _ => cases hs
          obtain ⟨hkd, hxy, hsc⟩ := fl
          subst hxy
          refine ⟨_, rfl, x, .ty "dict", _, _, _, rfl, .ty _, hy.ty, hkd, _, rfl, iteF ?_⟩
          refine ⟨_, rfl, x, .ty "bool", _, _, _, rfl, .ty _, hy.ty, hkb, _, rfl, x, .ty "bool", _, _, _, rfl, .ty _, hx.ty, hkb, rfl, _, rfl, ?_⟩
          refine iteNS rfl ?_
          refine ⟨_, rfl, x, .ty "int", _, _, _, rfl, .ty _, hy.ty, hki, _, rfl, x, .ty "int", _, _, _, rfl, .ty _, hx.ty, hki, rfl, _, rfl, ?_⟩
          refine iteNS rfl ?_
          refine ⟨_, rfl, x, .ty "str", _, _, _, rfl, .ty _, hy.ty, hks, _, rfl, x, .ty "str", _, _, _, rfl, .ty _, hx.ty, hks, rfl, _, rfl, iteDT rfl ?_⟩
          refine ⟨_, rfl, _, rfl, hsc, ?_⟩
          rw [decide_eq_true rfl]
          exact q _ e1
        | true =>
          refine iteT ?_
          -- kinds
          refine ⟨_, rfl, x, .ty "list", _, _, _, rfl, .ty _, hx.ty, hkl, _, rfl, y, .ty "list", _, _, _, rfl, .ty _, hy.ty, hkl, rfl, _, rfl, ?_⟩
          refine iteNS rfl ?_
          refine ⟨_, rfl, x, .ty "tuple", _, _, _, rfl, .ty _, hx.ty, hkt, _, rfl, y, .ty "tuple", _, _, _, rfl, .ty _, hy.ty, hkt, rfl, _, rfl, ?_⟩
          refine iteNS rfl ?_
          -- len(found) == len(due) and all([..])
          have main : ∃ (ds : List PyData) (p1 p2 : Addr) (xs ys : List V), x = .ref p1 ∧ y = .ref p2 ∧ Reps H1 xs ds ∧ Reps H1 ys ds ∧ PyData.depthAll ds < n ∧ ds.length ≤ 90000 ∧ widAll ds ≤ 90000 ∧ ((H1 p1 = some (.lst xs) ∧ H1 p2 = some (.lst ys)) ∨ (H1 p1 = some (.tup xs) ∧ H1 p2 = some (.tup ys))) := by
            cases hx with
            | non => exact absurd rfl hn
            | bl b => cases hs
            | int b => cases hs
            | str b => cases hs
            | lst h r =>
              cases hy with
              | lst h' r' => exact ⟨_, _, _, _, _, rfl, rfl, r, r', by simp only [PyData.depth] at hd; omega, by simp only [wid] at hwd; omega, by simp only [wid] at hwd; omega, .inl ⟨h, h'⟩⟩
            | tup h r =>
              cases hy with
              | tup h' r' => exact ⟨_, _, _, _, _, rfl, rfl, r, r', by simp only [PyData.depth] at hd; omega, by simp only [wid] at hwd; omega, by simp only [wid] at hwd; omega, .inr ⟨h, h'⟩⟩
          obtain ⟨ds, p1, p2, xs, ys, rfl, rfl, rx, ry, hdn, hl1, hl2, ho⟩ := main
          have lx := rx.length
          have ly := ry.length
          have LX : LenV K (.ref p1) H1 xs.length := by
            rcases ho with ⟨h, _⟩ | ⟨h, _⟩
            · exact .inl ⟨_, sq_of h, rfl⟩
            · exact .inr ⟨_, st_of h, rfl⟩
          have LY : LenV K (.ref p2) H1 ys.length := by
            rcases ho with ⟨_, h⟩ | ⟨_, h⟩
            · exact .inl ⟨_, sq_of h, rfl⟩
            · exact .inr ⟨_, st_of h, rfl⟩
          refine ⟨_, rfl, .ref p1, _, rfl, LX, _, rfl, .ref p2, _, rfl, LY, rfl, _, rfl, iteDT (by rw [lx, ly]) ?_⟩
          -- all([same(x, y) for x, y in zip(found, due)])
          have turn : ∀ (D : Addr) (i : Nat) (v : V) (H3 H4 : Hp), i < ds.length → (H1 D = none ∧ Ex H1 H3 ∧ H3 D = some (.lst (List.replicate i (V.bl true)))) → YPair (fun i => xs[i]?) (fun i => ys[i]?) i H3 v H4 →
              gTup K 2 (gCons (gName 3) (gCons (gName 4) gNil)) v [some (V.ref p1), some (V.ref p2), none, none, none] H4 fun σ2 H5 => wipe σ2 [3, 4] = [some (V.ref p1), some (V.ref p2), none, none, none] ∧ tYes σ2 H5 fun b H6 =>
                if b = true then tCall (spSame n) [] (fun _ _ _ => False) (tCons (tVar 3) (tCons (tVar 4) tNil)) σ2 H6 fun y H7 => ∃ acc, H7 D = some (.lst acc) ∧ acc.length < sizeLine ∧
                  (fun i H' => H1 D = none ∧ Ex H1 H' ∧ H' D = some (.lst (List.replicate i (V.bl true)))) (i + 1) (upd H7 D (.lst (acc ++ [y]))) else (fun i H' => H1 D = none ∧ Ex H1 H' ∧ H' D = some (.lst (List.replicate i (V.bl true)))) (i + 1) H6 := by
            intro D i v H3 H4 hi hp hy4
            obtain ⟨T1, u1, u2, rfl, hT, rfl, g1, g2⟩ := hy4
            obtain ⟨hD, ex3, hD3⟩ := hp
            obtain ⟨d1, hd1, r1⟩ := rx.get g1
            obtain ⟨d2, hd2, r2⟩ := ry.get g2
            rw [hd1] at hd2
            cases hd2
            have ex4 : Ex H3 (upd H3 T1 (.tup [u1, u2])) := Ex.new hT
            refine ⟨T1, [u1, u2], rfl, st_of upd_same, rfl, u1, [u2], rfl, u2, [], rfl, rfl, rfl, ?_⟩
            refine ⟨u1, rfl, u2, rfl, u1, u2, d1, rfl, Rep.mono (ex3.trans ex4) r1, Rep.mono (ex3.trans ex4) r2, Nat.lt_of_le_of_lt (depth_get hd1) hdn, Nat.le_trans (wid_get hd1) hl2, fun H7 e7 => ?_⟩
            refine ⟨_, e7 _ _ (ex4 _ _ hD3), ?_, hD, ((ex3.trans ex4).trans e7).mut hD, ?_⟩
            · rw [List.length_replicate]
              exact sz_lt (by omega)
            · rw [upd_same, List.replicate_succ']
          have fin : ∀ (D : Addr) (H' : Hp), (H1 D = none ∧ Ex H1 H' ∧ H' D = some (.lst (List.replicate ds.length (V.bl true)))) → tNil [some (V.ref p1), some (V.ref p2), none, none, none] H' fun xs H2 => rAll K (V.ref D :: xs) H2 Q := by
            intro D H' hp
            refine ⟨D, List.replicate ds.length true, rfl, sq_of (hp.2.2.trans (by rw [List.map_replicate])), ?_⟩
            rw [show (List.replicate ds.length true).all id = true by simp]
            exact q _ (e1.trans hp.2.1)
          rcases ho with ⟨h1, h2⟩ | ⟨h1, h2⟩
          · refine ⟨_, rfl, _, rfl, p1, p2, xs, ys, rfl, .inl ⟨sq_of h1, sq_of h2, fun D hD => lc_it (walk_zip (n := ds.length) (by omega)) (fun i H' => H1 D = none ∧ Ex H1 H' ∧ H' D = some (.lst (List.replicate i (V.bl true)))) ⟨hD, Ex.new hD, upd_same⟩ (fun i H' _ hp => ⟨sq_of (hp.2.1 _ _ h1), sq_of (hp.2.1 _ _ h2)⟩) (fun i v H3 H4 hi hp hy4 => turn D i v H3 H4 hi hp hy4) (fun H' hp => fin D H' hp)⟩⟩
          · refine ⟨_, rfl, _, rfl, p1, p2, xs, ys, rfl, .inr ⟨st_of h1, st_of h2, fun D hD => lc_it (walk_zipT (n := ds.length) (by omega)) (fun i H' => H1 D = none ∧ Ex H1 H' ∧ H' D = some (.lst (List.replicate i (V.bl true)))) ⟨hD, Ex.new hD, upd_same⟩ (fun i H' _ hp => ⟨st_of (hp.2.1 _ _ h1), st_of (hp.2.1 _ _ h2)⟩) (fun i v H3 H4 hi hp hy4 => turn D i v H3 H4 hi hp hy4) (fun H' hp => fin D H' hp)⟩⟩
end
end Eyes

set_option Elab.async false
set_option linter.all false
set_option maxRecDepth 100000
set_option maxHeartbeats 4000000
namespace Eyes
open PySem PySem.Spec PyProof.Rows L2 Evl
theorem kw_is_number_0_most_value_least : KwOk "is_number" s_is_number p_is_number 0 ["most", "value", "least"] [1, 2, 0] := fun _ _ _ _ _ _ us ws h1 h2 => match us, ws, h1, h2 with | [], [_, _, _], _, _ => rfl
theorem kw_is_number_2_most : KwOk "is_number" s_is_number p_is_number 2 ["most"] [0, 1, 2] := fun _ _ _ _ _ _ us ws h1 h2 => match us, ws, h1, h2 with | [_, _], [_], _, _ => rfl
theorem kw_is_name_0_value : KwOk "is_name" s_is_name p_is_name 0 ["value"] [0] := fun _ _ _ _ _ _ us ws h1 h2 => match us, ws, h1, h2 with | [], [_], _, _ => rfl
abbrev letters : Str := "abcdefghijklmnopqrstuvwxyz"
/-! ### values of all kinds -/
inductive Tk where
  | s (z : Str) | i (n : Int) | b (c : Bool) | o
def okS (z : Str) : Prop := z.length ≤ 1000 ∧ ∀ c ∈ z.cps.toList, c < 128
def Knd (K : PySem.W.Frag) (H : Hp) (v : V) : Tk → Prop
  | .s z => v = .str z ∧ okS z
  | .i n => v = .int n
  | .b c => v = .bl c
  | .o => ∃ t, TyX K H v t ∧ PySem.W.kitOne K t (.type "str") = some false ∧ PySem.W.kitOne K t (.type "int") = some false ∧ PySem.W.kitOne K t (.type "bool") = some false
theorem TyX.mono {K : PySem.W.Frag} {H H' : Hp} {v : V} {t : Value} (e : Ex H H') (h : TyX K H v t) : TyX K H' v t := by
  cases h with
  | base h =>
    cases h with
    | non => exact .base .non
    | bl b => exact .base (.bl b)
    | int b => exact .base (.int b)
    | str b => exact .base (.str b)
    | flt b => exact .base (.flt b)
    | lst h => exact .base (.lst (e _ _ h))
    | frz h => exact .base (.frz (e _ _ h))
    | tup h => exact .base (.tup (e _ _ h))
    | dK h => exact .base (.dK (e _ _ h))
    | dT h => exact .base (.dT (e _ _ h))
    | ins h h1 h2 h3 h4 h5 => exact .base (.ins (e _ _ h) h1 h2 h3 h4 h5)
  | byt b => exact .byt b
  | set h => exact .set (e _ _ h)
  | kList h c => exact .kList h c
  | kTuple h c => exact .kTuple h c
  | kDict h c => exact .kDict h c
  | fTuple h => exact .fTuple (e _ _ h)
  | fDict h => exact .fDict (e _ _ h)
theorem Knd.mono {K : PySem.W.Frag} {H H' : Hp} {v : V} {k : Tk} (e : Ex H H') (h : Knd K H v k) : Knd K H' v k := by
  cases k with
  | s z => exact h
  | i n => exact h
  | b c => exact h
  | o => obtain ⟨t, h1, h2⟩ := h; exact ⟨t, TyX.mono e h1, h2⟩
def isS : Tk → Bool | .s _ => true | _ => false
def isI : Tk → Bool | .i _ => true | .b _ => true | _ => false
def isB : Tk → Bool | .b _ => true | _ => false
theorem Knd.ty {K : PySem.W.Frag} {H : Hp} {v : V} {k : Tk} (h : Knd K H v k) : ∃ t, TyX K H v t ∧ PySem.W.kitOne K t (.type "str") = some (isS k) ∧ PySem.W.kitOne K t (.type "int") = some (isI k) ∧ PySem.W.kitOne K t (.type "bool") = some (isB k) := by
  cases k with
  | s z => obtain ⟨rfl, _⟩ := h; exact ⟨_, .base (.str z), kit_ty (r := true) (by decide +kernel), kit_ty (r := false) (by decide +kernel), kit_ty (r := false) (by decide +kernel)⟩
  | i n => cases h; exact ⟨_, .base (.int n), kit_ty (r := false) (by decide +kernel), kit_ty (r := true) (by decide +kernel), kit_ty (r := false) (by decide +kernel)⟩
  | b c => cases h; exact ⟨_, .base (.bl c), kit_ty (r := false) (by decide +kernel), kit_ty (r := true) (by decide +kernel), kit_ty (r := true) (by decide +kernel)⟩
  | o => exact h
def nameS (z : Str) : Bool := decide (1 ≤ z.length) && decide (z.length ≤ 6) && z.cps.toList.all fun c => decide (c ∈ letters.cps.toList)
def nameK : Tk → Bool | .s z => nameS z | _ => false
def numK (lo hi : Int) : Tk → Bool | .i n => decide (lo ≤ n) && decide (n ≤ hi) | _ => false
def spName (K : PySem.W.Frag) : Sp := fun vs H Q _ => ∃ (v : V) (k : Tk), vs = [v] ∧ Knd K H v k ∧ ∀ H', Ex H H' → Q (.bl (nameK k)) H'
def spNum (K : PySem.W.Frag) : Sp := fun vs H Q _ => ∃ (v : V) (k : Tk) (lo hi : Int), vs = [v, .int lo, .int hi] ∧ Knd K H v k ∧ Q (.bl (numK lo hi k)) H
section
variable {P : Program} {w : World} {K : PySem.W.Frag} {mg : Str → Option Value} {base : Heap} {AA : Adr}
theorem ok_is_name (T : Txt K mg AA) : Pr P w K mg base "is_name" s_is_name p_is_name 1 (spName K) := by
  refine pr_mk T.f_is_name sc_is_name (fun vs H Q E h => ?_) (fun f cdv A outer s H vs Q E hr h => ?_)
  · obtain ⟨v, k, rfl, _⟩ := h
    rfl
  · obtain ⟨v, k, rfl, hk, q⟩ := h
    obtain ⟨t, ht, hs, hi, hb⟩ := hk.ty
    refine ⟨_, (pss_cons (ps_if (PW.pt (pw_or (pt_not (pt_val (pe_callB call_isi (by rfl) T.n_isinstance PyProof.Rows.boot_isinstance (pa_cons (pv 0) (pa_cons (pe_bltn (v := .ty "str") (by rfl) T.n_str (by decide +kernel) rfl) pa_nil))))) (pw_or1 (pt_not (pt_chain op_le op_le pe_int (pe_callB call_len_str (by rfl) T.n_len PySem.boot_len (pa_cons (pv 0) pa_nil)) (pgI T.m_MOST_LETTERS))))))
      (pss_one (ps_ret pe_bl))
      pss_nil)
      (pss_one (ps_ret (pe_callB (cr_all rfl) (by rfl) T.n_all PyProof.Rows.boot_all (pa_cons (pe_lc (own := [("letter", 1)]) (g := gName 1) (tt := tYes) rfl sc_is_name.nd (pi_str (pv 0)) (blkOk_by (own := [("letter", 1)]) (N := n_is_name) (sc := defScope s_is_name) (by decide +kernel)) (fun _ _ _ _ _ => (pg_name (i := 1) sc_is_name.nd rfl (.inl rfl))) (fun _ _ _ _ _ => pts_nil) (fun _ _ _ _ _ => (pe_cmpR op_in_sign (pv 1) (pgS T.m_LETTERS) rfl))) pa_nil))))), ?_⟩
    refine ⟨_, rfl, v, .ty "str", _, _, _, rfl, .ty _, ht, hs, _, rfl, ?_⟩
    cases k with
    | s z =>
      obtain ⟨rfl, hz, hz2⟩ := hk
      refine iteF ?_
      -- 1 <= len(value) <= MOST_LETTERS
      refine ⟨_, rfl, z, rfl, sz_of (by omega), 1, z.length, rfl, rfl, _, rfl, ite2 (fun h1 => ?_) (fun h1 => ?_)⟩
      · refine ⟨z.length, 6, rfl, rfl, _, rfl, ?_⟩
        have h1 : 1 ≤ z.length := by have := of_decide_eq_true h1; omega
        by_cases h6 : z.length ≤ 6
        · have e6 : decide (((z.length : Nat) : Int) ≤ 6) = true := decide_eq_true (by omega)
          rw [e6]
          refine iteF ?_
          -- all([letter in LETTERS for letter in value])
          refine ⟨_, rfl, z, rfl, fun D hD => lc_it (walk_str (z := z)) (fun i H' => H D = none ∧ Ex H H' ∧ H' D = some (.lst ((z.cps.toList.take i).map fun c => V.bl (decide (c ∈ letters.cps.toList))))) ⟨hD, Ex.new hD, upd_same⟩ (fun _ _ _ _ => True.intro) (fun i v H3 H4 hi hp hy => ?_) (fun H' hp => ?_)⟩
          · obtain ⟨rfl, c, hc, rfl⟩ := hy
            obtain ⟨h1', h2', h3'⟩ := hp
            refine ⟨rfl, _, rfl, c, letters, rfl, rfl, _, h3', ?_, h1', h2'.mut h1', ?_⟩
            · rw [List.length_map, List.length_take]
              exact sz_lt (by have : z.cps.size = z.length := rfl; omega)
            · have hc' : z.cps.toList[i]? = some c := by rw [Array.getElem?_toList]; exact hc
              rw [upd_same, List.take_add_one, hc', List.map_append]
              rfl
          · refine ⟨D, z.cps.toList.map fun c => decide (c ∈ letters.cps.toList), rfl, sq_of (hp.2.2.trans ?_), ?_⟩
            · rw [List.take_of_length_le (by rw [Array.length_toList]; exact Nat.le_refl _), List.map_map]
              rfl
            · have e : (z.cps.toList.map fun c => decide (c ∈ letters.cps.toList)).all id = nameK (.s z) := by
                show _ = nameS z
                unfold nameS
                rw [decide_eq_true h1, decide_eq_true h6, List.all_map]
                rfl
              rw [e]
              exact q _ hp.2.1
        · have e6 : decide (((z.length : Nat) : Int) ≤ 6) = false := decide_eq_false (by omega)
          rw [e6]
          refine iteT ?_
          have e : nameK (.s z) = false := by
            show nameS z = false
            unfold nameS
            rw [decide_eq_false h6, Bool.and_false]
            rfl
          rw [e] at q
          exact q _ (Ex.refl _)
      · refine ⟨_, rfl, iteT ?_⟩
        have h1 : ¬ 1 ≤ z.length := fun h => h1 (decide_eq_true (by omega))
        have e : nameK (.s z) = false := by
          show nameS z = false
          unfold nameS
          rw [decide_eq_false h1]
          rfl
        rw [e] at q
        exact q _ (Ex.refl _)
    | i n => exact iteT (iteT (q _ (Ex.refl _)))
    | b c => exact iteT (iteT (q _ (Ex.refl _)))
    | o => exact iteT (iteT (q _ (Ex.refl _)))
theorem ok_is_number (T : Txt K mg AA) : Pr P w K mg base "is_number" s_is_number p_is_number 1 (spNum K) := by
  refine pr_mk T.f_is_number sc_is_number (fun vs H Q E h => ?_) (fun f cdv A outer s H vs Q E hr h => ?_)
  · obtain ⟨v, k, lo, hi, rfl, _⟩ := h
    rfl
  · obtain ⟨v, k, lo, hi, rfl, hk, q⟩ := h
    obtain ⟨t, ht, hs, hin, hb⟩ := hk.ty
    refine ⟨_, (pss_cons (ps_if (PW.pt (pw_or (pt_val (pe_callB call_isi (by rfl) T.n_isinstance PyProof.Rows.boot_isinstance (pa_cons (pv 0) (pa_cons (pe_bltn (v := .ty "bool") (by rfl) T.n_bool (by decide +kernel) rfl) pa_nil)))) (pw_or1 (pt_not (pt_val (pe_callB call_isi (by rfl) T.n_isinstance PyProof.Rows.boot_isinstance (pa_cons (pv 0) (pa_cons (pe_bltn (v := .ty "int") (by rfl) T.n_int (by decide +kernel) rfl) pa_nil))))))))
      (pss_one (ps_ret pe_bl))
      pss_nil)
      (pss_one (ps_ret (pe_chain op_le op_le (pv 1) (pv 0) (pv 2))))), ?_⟩
    refine ⟨_, rfl, v, .ty "bool", _, _, _, rfl, .ty _, ht, hb, _, rfl, ?_⟩
    cases k with
    | b c => exact iteT (iteT q)
    | s z =>
      refine iteF ⟨_, rfl, v, .ty "int", _, _, _, rfl, .ty _, ht, hin, _, rfl, iteT q⟩
    | o =>
      refine iteF ⟨_, rfl, v, .ty "int", _, _, _, rfl, .ty _, ht, hin, _, rfl, iteT q⟩
    | i n =>
      cases hk
      refine iteF ⟨_, rfl, .int n, .ty "int", _, _, _, rfl, .ty _, ht, hin, _, rfl, ?_⟩
      refine iteF ⟨_, rfl, _, rfl, lo, n, rfl, rfl, _, rfl, ?_⟩
      show if decide (lo ≤ n) = true then _ else _
      have e : numK lo hi (.i n) = (decide (lo ≤ n) && decide (n ≤ hi)) := rfl
      rw [e] at q
      by_cases h : lo ≤ n
      · rw [decide_eq_true h] at q ⊢
        exact iteT ⟨_, rfl, n, hi, rfl, rfl, q⟩
      · rw [decide_eq_false h] at q ⊢
        exact iteF q
end
end Eyes

set_option Elab.async false
set_option linter.all false
set_option maxRecDepth 100000
set_option maxHeartbeats 4000000
namespace Eyes
open PySem PySem.Spec PyProof.Rows L2 Evl
theorem dp_signs {K : PySem.W.Frag} {H : Hp} : ∀ l : List Nat, DpAll K H (l.map fun c => V.str ⟨#[c]⟩) (l.map fun c => .str ⟨#[c]⟩)
  | [] => .nil
  | _ :: l => .cons (.str _) (dp_signs l)
theorem shaped_signs {l : List Nat} (h : ∀ c ∈ l, c < 1114112) : SeqAt.shaped (.list (l.map fun c => .str ⟨#[c]⟩)) = true := by
  have h1 : PyData.canLay0 (.list (l.map fun c => .str ⟨#[c]⟩)) = true := by
    show PyData.canLayAll0 _ = true
    induction l with
    | nil => rfl
    | cons c l ih =>
      show (PyData.canLay0 (.str ⟨#[c]⟩) && PyData.canLayAll0 (l.map fun c => .str ⟨#[c]⟩)) = true
      rw [ih fun d hd => h d (List.mem_cons_of_mem _ hd), Bool.and_true]
      have hc := h c List.mem_cons_self
      simp [PyData.canLay0, PyData.strOk, hc]
  have h2 : PyData.depth (.list (l.map fun c => .str ⟨#[c]⟩)) ≤ 64 := by
    have : PyData.depthAll (l.map fun c => PyData.str ⟨#[c]⟩) = 0 := by
      clear h h1
      induction l with
      | nil => rfl
      | cons c l ih =>
        show max (PyData.depth (.str ⟨#[c]⟩)) _ = 0
        rw [ih]
        rfl
    show PyData.depthAll _ + 1 ≤ 64
    rw [this]
    decide
  unfold SeqAt.shaped
  rw [h1, decide_eq_true h2]
  rfl
def spTitle (K : PySem.W.Frag) : Sp := fun vs H Q _ => ∃ (v : V) (k : Tk), vs = [v] ∧ Knd K H v k ∧ ∀ H', Ex H H' → Q (.bl (nameK k)) H'
def spCut : Sp := fun vs H Q _ => ∃ (n : Int), vs = [.int n] ∧ ∀ m, Q (.int m) H
def spEnd : Sp := fun vs H Q _ => ∃ (b : Addr) (G : Hp), vs = [.ref b] ∧ At b G H ∧ ∀ n H', At b G H' → Q (.int n) H'
section
variable {P : Program} {w : World} {K : PySem.W.Frag} {mg : Str → Option Value} {base : Heap} {AA : Adr}
theorem ok_law_cut_to (T : Txt K mg AA) : Pr P w K mg base "_law_cut_to" s_law_cut_to p_law_cut_to 1 spCut := by
  refine pr_mk T.f_law_cut_to sc_law_cut_to (fun vs H Q E h => ?_) (fun f cdv A outer s H vs Q E hr h => ?_)
  · obtain ⟨n, rfl, _⟩ := h
    rfl
  · obtain ⟨n, rfl, q⟩ := h
    refine ⟨_, (pss_one (ps_ret (pe_callB (call_max2 rfl) (by rfl) T.n_max PyProof.Rows.boot_max (pa_cons (pe_un un_neg pe_int) (pa_cons (pe_callB (call_min2 rfl) (by rfl) T.n_min PyProof.Rows.boot_min (pa_cons pe_int (pa_cons (pv 0) pa_nil))) pa_nil))))), ?_⟩
    exact ⟨_, rfl, _, rfl, _, _, rfl, _, _, rfl, q _⟩
theorem ok_law_end (T : Txt K mg AA) : Pr P w K mg base "_law_end" s_law_end p_law_end 3 spEnd := by
  refine pr_mk T.f_law_end sc_law_end (fun vs H Q E h => ?_) (fun f cdv A outer s H vs Q E hr h => ?_)
  · obtain ⟨b, G, rfl, _⟩ := h
    rfl
  · obtain ⟨b, G, rfl, hA, q⟩ := h
    refine ⟨_, (pss_cons (ps_set (i := 1) sc_law_end.nd rfl (.inl rfl) (pcall (ok_law_draw T) hr (pa_cons (pv 0) (pa_cons pe_int pa_nil))))
      (pss_one (ps_ret (pcall (ok_law_of T) hr (pa_cons (pv 0) (pa_cons (pe_lst (pa_cons pe_int (pa_cons pe_int (pa_cons (pe_un un_neg pe_int) (pa_cons pe_int (pa_cons pe_int (pa_cons (pv 1) (pa_cons (pe_un un_neg (pv 1)) (pa_cons (pe_op op_sub pe_int (pv 1)) (pa_cons (pe_op op_sub (pv 1) pe_int) (pa_cons (pcall (ok_law_draw T) hr (pa_cons (pv 0) (pa_cons (pe_op op_pow pe_int pe_int) pa_nil))) (pa_cons (pe_op op_sub pe_int (pcall (ok_law_draw T) hr (pa_cons (pv 0) (pa_cons pe_int pa_nil)))) pa_nil)))))))))))) pa_nil)))))), ?_⟩
    refine ⟨_, rfl, b, 3, G, rfl, hA, by decide, by decide, fun d H1 _ _ hA1 => ?_⟩
    -- of(bag, [0, 1, ..])
    refine ⟨_, rfl, _, rfl, _, rfl, _, rfl, _, rfl, _, rfl, _, _, rfl, rfl, _, rfl, _, _, rfl, rfl, ?_⟩
    refine ⟨_, rfl, 10, 9, rfl, rfl, ⟨by decide, by decide, by decide⟩, b, _, G, rfl, hA1, by decide, by decide, fun d2 H2 _ _ hA2 => ?_⟩
    refine ⟨_, rfl, b, 21, G, rfl, hA2, by decide, by decide, fun d3 H3 _ _ hA3 => ⟨_, _, rfl, rfl, by show 11 ≤ sizeLine; decide, fun p hp => ?_⟩⟩
    refine ⟨b, .ref p, _, _, rfl, hA3.new hp, .inl ⟨p, rfl, sq_of upd_same⟩, by show 0 < 11; decide, by show 11 < 1073741824; decide, fun v H4 hv hA4 => ?_⟩
    have hA5 := hA4.weak (Ex.new (hA3.nh hp))
    simp only [List.mem_cons, List.not_mem_nil, or_false] at hv
    rcases hv with rfl | rfl | rfl | rfl | rfl | rfl | rfl | rfl | rfl | rfl | rfl <;> exact q _ _ hA5
theorem ok_law_is_title (T : Txt K mg AA) : Pr P w K mg base "_law_is_title" s_law_is_title p_law_is_title 1 (spTitle K) := by
  refine pr_mk T.f_law_is_title sc_law_is_title (fun vs H Q E h => ?_) (fun f cdv A outer s H vs Q E hr h => ?_)
  · obtain ⟨v, k, rfl, _⟩ := h
    rfl
  · obtain ⟨v, k, rfl, hk, q⟩ := h
    obtain ⟨t, ht, hs, hi, hb⟩ := hk.ty
    refine ⟨_, (pss_cons (ps_if (PW.pt (pw_or (pt_not (pt_val (pe_callB call_isi (by rfl) T.n_isinstance PyProof.Rows.boot_isinstance (pa_cons (pv 0) (pa_cons (pe_bltn (v := .ty "str") (by rfl) T.n_str (by decide +kernel) rfl) pa_nil))))) (pw_or (pt_cmpR op_lt (pe_callB call_len_str (by rfl) T.n_len PySem.boot_len (pa_cons (pv 0) pa_nil)) pe_int (nomark _)) (pw_or1 (pt_cmpR op_gt (pe_callB call_len_str (by rfl) T.n_len PySem.boot_len (pa_cons (pv 0) pa_nil)) pe_int (nomark _))))))
      (pss_one (ps_ret pe_bl))
      pss_nil)
      (pss_one (ps_ret (pe_cmpR (op_eqD hr.units) (pe_lc (own := [("_law_sign", 1)]) (g := gName 1) rfl sc_law_is_title.nd (pi_str (pv 0)) (blkOk_by (own := [("_law_sign", 1)]) (N := n_law_is_title) (sc := defScope s_law_is_title) (by decide +kernel)) (fun _ _ _ _ _ => (pg_name (i := 1) sc_law_is_title.nd rfl (.inl rfl))) (fun _ _ _ _ _ => (pts_one (pt_cmpR op_notIn_sign (pv 1) pe_str rfl))) (fun _ _ _ _ _ => (pv 1))) (pe_lst pa_nil) (nomark _))))), ?_⟩
    refine ⟨_, rfl, v, .ty "str", _, _, _, rfl, .ty _, ht, hs, _, rfl, ?_⟩
    cases k with
    | i n => exact iteT (iteT (q _ (Ex.refl _)))
    | b c => exact iteT (iteT (q _ (Ex.refl _)))
    | o => exact iteT (iteT (q _ (Ex.refl _)))
    | s z =>
      obtain ⟨rfl, hz, hz2⟩ := hk
      refine iteF ?_
      -- len(thing) < 1 or len(thing) > 6
      refine ⟨_, rfl, z, rfl, sz_of (by omega), z.length, 1, rfl, rfl, _, rfl, ite2 (fun h1 => ?_) (fun h1 => ?_)⟩
      · have h1 : ¬ 1 ≤ z.length := by have := of_decide_eq_true h1; omega
        have e : nameK (.s z) = false := by
          show nameS z = false
          unfold nameS
          rw [decide_eq_false h1]
          rfl
        rw [e] at q
        exact iteT (q _ (Ex.refl _))
      · have h1 : 1 ≤ z.length := Nat.le_of_not_lt fun h => h1 (decide_eq_true (by omega))
        refine ⟨_, rfl, z, rfl, sz_of (by omega), z.length, 6, rfl, rfl, _, rfl, ite2 (fun h6 => ?_) (fun h6 => ?_)⟩
        · have h6 : ¬ z.length ≤ 6 := by have := of_decide_eq_true h6; omega
          have e : nameK (.s z) = false := by
            show nameS z = false
            unfold nameS
            rw [decide_eq_false h6, Bool.and_false]
            rfl
          rw [e] at q
          exact q _ (Ex.refl _)
        · have h6 : z.length ≤ 6 := Nat.le_of_not_lt fun h => h6 (decide_eq_true (by omega))
          -- [sign for sign in thing if sign not in ..] == []
          refine ⟨_, rfl, z, rfl, fun D hD => lc_it (walk_str (z := z)) (fun i H' => H D = none ∧ Ex H H' ∧ H' D = some (.lst (((z.cps.toList.take i).filter fun c => !decide (c ∈ letters.cps.toList)).map fun c => V.str ⟨#[c]⟩))) ⟨hD, Ex.new hD, upd_same⟩ (fun _ _ _ _ => True.intro) (fun i v H3 H4 hi hp hy => ?_) (fun H' hp => ?_)⟩
          · obtain ⟨rfl, c, hc, rfl⟩ := hy
            obtain ⟨h1', h2', h3'⟩ := hp
            have hc' : z.cps.toList[i]? = some c := by rw [Array.getElem?_toList]; exact hc
            refine ⟨rfl, _, rfl, c, letters, rfl, rfl, _, rfl, ite2 (fun hb => ?_) (fun hb => ?_)⟩
            · refine ⟨_, rfl, _, h3', ?_, h1', h2'.mut h1', ?_⟩
              · rw [List.length_map]
                refine sz_lt (Nat.lt_of_le_of_lt (List.length_filter_le _ _) ?_)
                rw [List.length_take]
                have : z.cps.size = z.length := rfl
                omega
              · rw [upd_same, List.take_add_one, hc', List.filter_append, List.map_append]
                show _ = some (HO.lst (_ ++ List.map _ (List.filter _ [c])))
                rw [List.filter_cons, if_pos hb]
                rfl
            · refine ⟨h1', h2', ?_⟩
              rw [h3', List.take_add_one, hc', List.filter_append, List.map_append]
              show _ = some (HO.lst (_ ++ List.map _ (List.filter _ [c])))
              rw [List.filter_cons, if_neg hb]
              show _ = some (HO.lst (_ ++ []))
              rw [List.append_nil]
          · rw [List.take_of_length_le (by rw [Array.length_toList]; exact Nat.le_refl _)] at hp
            obtain ⟨h1', h2', h3'⟩ := hp
            refine ⟨by show 0 ≤ sizeLine; decide, fun p2 hp2 => ?_⟩
            have ex := h2'.trans (Ex.new (o := HO.lst []) hp2)
            have hD3 : (upd H' p2 (.lst [])) D = some (.lst ((z.cps.toList.filter fun c => !decide (c ∈ letters.cps.toList)).map fun c => V.str ⟨#[c]⟩)) := Ex.new hp2 _ _ h3'
            have hok : ∀ c ∈ z.cps.toList.filter fun c => !decide (c ∈ letters.cps.toList), c < 1114112 := fun c hc => Nat.lt_trans (hz2 c (List.mem_filter.mp hc).1) (by decide)
            refine ⟨.list ((z.cps.toList.filter fun c => !decide (c ∈ letters.cps.toList)).map fun c => .str ⟨#[c]⟩), .list [], .lst (sq_of hD3) (dp_signs _), .lst (sq_of upd_same) .nil, shaped_signs hok, by decide +kernel, ?_⟩
            have e : PyData.eqv (.list ((z.cps.toList.filter fun c => !decide (c ∈ letters.cps.toList)).map fun c => .str ⟨#[c]⟩)) (.list []) = nameK (.s z) := by
              show _ = nameS z
              unfold nameS
              rw [decide_eq_true h1, decide_eq_true h6]
              generalize z.cps.toList = l
              induction l with
              | nil => rfl
              | cons c l ih =>
                rw [List.filter_cons, List.all_cons]
                by_cases hc : c ∈ letters.cps.toList
                · rw [decide_eq_true hc]
                  simpa using ih
                · rw [decide_eq_false hc]
                  simp [PyData.eqv, PyData.eqvAll]
            rw [e]
            exact q _ ex
end
end Eyes

set_option Elab.async false
set_option linter.all false
set_option maxRecDepth 100000
set_option maxHeartbeats 4000000
namespace Eyes
open PySem PySem.Spec PyProof.Rows L2 Evl TL
theorem joinL_nil : ∀ l : List (List Nat), joinL [] l = l.flatten
  | [] => rfl
  | [p] => by simp [joinL]
  | p :: q :: r => by
    show p ++ ([] ++ joinL [] (q :: r)) = _
    rw [joinL_nil (q :: r)]
    simp
theorem join_signs (cs : List Nat) : tl (Txt.join ("" : Str) (cs.map fun c => ⟨#[c]⟩)) = cs := by
  rw [join_eq, tl_join, show tl ("" : Str) = [] by decide +kernel, joinL_nil, List.map_map]
  induction cs with
  | nil => rfl
  | cons c cs ih =>
    rw [List.map_cons, List.flatten_cons, ih]
    rfl
theorem letters_small : ∀ c ∈ letters.cps.toList, c < 128 := by decide +kernel
theorem okS_append {x y : Str} {n m : Nat} (hx : x.length ≤ n ∧ ∀ c ∈ x.cps.toList, c < 128) (hy : y.length ≤ m ∧ ∀ c ∈ y.cps.toList, c < 128) : (x ++ y).length ≤ n + m ∧ ∀ c ∈ (x ++ y).cps.toList, c < 128 := by
  have e := tl_append x y
  refine ⟨?_, fun c hc => ?_⟩
  · rw [len_tl, e, List.length_append, ← len_tl, ← len_tl]
    exact Nat.add_le_add hx.1 hy.1
  · have hc : c ∈ tl (x ++ y) := hc
    rw [e] at hc
    rcases List.mem_append.mp hc with h | h
    · exact hx.2 c h
    · exact hy.2 c h
theorem okS_cut {x : Str} {n : Nat} (lo hi : Option Int) (hx : x.length ≤ n ∧ ∀ c ∈ x.cps.toList, c < 128) : (cutS x lo hi).length ≤ n ∧ ∀ c ∈ (cutS x lo hi).cps.toList, c < 128 := by
  refine ⟨?_, fun c hc => ?_⟩
  · unfold cutS
    show (List.toArray _).size ≤ n
    rw [List.size_toArray, List.length_take, List.length_drop]
    have h1 := hx.1
    have : x.cps.toList.length = x.length := Array.length_toList
    omega
  · unfold cutS at hc
    exact hx.2 c (List.mem_of_mem_drop (List.mem_of_mem_take hc))
def spWord : Sp := fun vs H Q _ => ∃ (b : Addr) (G : Hp), vs = [.ref b] ∧ At b G H ∧ ∀ z H', okS z → At b G H' → Q (.str z) H'
section
variable {P : Program} {w : World} {K : PySem.W.Frag} {mg : Str → Option Value} {base : Heap} {AA : Adr}
theorem ok_law_word (T : Txt K mg AA) : Pr P w K mg base "_law_word" s_law_word p_law_word 3 spWord := by
  refine pr_mk T.f_law_word sc_law_word (fun vs H Q E h => ?_) (fun f cdv A outer s H vs Q E hr h => ?_)
  · obtain ⟨b, G, rfl, _⟩ := h
    rfl
  · obtain ⟨b, G, rfl, hA, q⟩ := h
    refine ⟨_, (pss_cons (ps_set (i := 1) sc_law_word.nd rfl (.inl rfl) (pcall (ok_law_draw T) hr (pa_cons (pv 0) (pa_cons pe_int pa_nil))))
      (pss_cons (ps_set (i := 2) sc_law_word.nd rfl (.inl rfl) (pcall (ok_law_draw T) hr (pa_cons (pv 0) (pa_cons pe_int pa_nil))))
      (pss_cons (ps_set (i := 3) sc_law_word.nd rfl (.inl rfl) (pe_join pe_str (pe_lc (own := [("_law_k", 6)]) (g := gName 6) (tt := tYes) rfl sc_law_word.nd (pi_range1 (by rfl) T.n_range (pa_cons (pv 2) pa_nil)) (blkOk_by (own := [("_law_k", 6)]) (N := n_law_word) (sc := defScope s_law_word) (by decide +kernel)) (fun _ _ _ _ _ => (pg_name (i := 6) sc_law_word.nd rfl (.inl rfl))) (fun _ _ _ _ _ => pts_nil) (fun _ _ _ _ _ => (pcall (ok_law_of T) hr (pa_cons (pv 0) (pa_cons pe_str pa_nil)))))))
      (pss_cons (ps_if (pt_cmpR op_eq (pv 1) pe_int (nomark _))
      (pss_one (ps_ret (pv 3)))
      pss_nil)
      (pss_cons (ps_set (i := 4) sc_law_word.nd rfl (.inl rfl) (pcall (ok_law_draw T) hr (pa_cons (pv 0) (pa_cons (pe_op op_add (pv 2) pe_int) pa_nil))))
      (pss_cons (ps_set (i := 5) sc_law_word.nd rfl (.inl rfl) (pcall (ok_law_of T) hr (pa_cons (pv 0) (pa_cons (pe_lst (pa_cons pe_str (pa_cons pe_str (pa_cons pe_str (pa_cons pe_str (pa_cons pe_str (pa_cons pe_str (pa_cons pe_str (pa_cons pe_str (pa_cons pe_str (pa_cons pe_str (pa_cons pe_str (pa_cons pe_str (pa_cons pe_str (pa_cons pe_str (pa_cons pe_str (pa_cons pe_str (pa_cons pe_str (pa_cons pe_str (pa_cons pe_str (pa_cons pe_str pa_nil))))))))))))))))))))) pa_nil))))
      (pss_one (ps_ret (pe_op op_add_str (pe_op op_add_str (pe_slice sl_str (pv 3) po_none (po_some (pv 4))) (pv 5)) (pe_slice sl_str (pv 3) (po_some (pe_op op_sub (pe_op op_add (pv 4) (pv 1)) pe_int)) po_none)))))))))), ?_⟩
    refine ⟨_, rfl, b, 3, G, rfl, hA, by decide, by decide, fun tn H1 t0 t1 hA1 => ?_⟩
    refine ⟨_, rfl, b, 9, G, rfl, hA1, by decide, by decide, fun sz H2 z0 z1 hA2 => ?_⟩
    -- ''.join([of(bag, letters) for k in range(size)])
    refine ⟨⟨_, rfl⟩, ?_⟩
    refine ⟨_, rfl, sz, rfl, by omega, by omega, fun D hD => lc_it walk_range (fun i H' => ∃ cs : List Nat, cs.length = i ∧ (∀ c ∈ cs, c < 128) ∧ At b (upd G D (.lst (cs.map fun c => V.str ⟨#[c]⟩))) H')
      ⟨[], rfl, (fun c hc => by cases hc), hA2.new hD⟩ (fun _ _ _ _ => True.intro) (fun i v H3 H4 hi hp hy => ?_) (fun H' hp => ?_)⟩
    · obtain ⟨rfl, rfl⟩ := hy
      obtain ⟨cs, hl, hc, hA3⟩ := hp
      refine ⟨rfl, ?_⟩
      refine ⟨_, rfl, b, .str letters, _, letters.cps.toList.map fun c => V.str ⟨#[c]⟩, rfl, hA3, .inr (.inr ⟨letters, rfl, by decide +kernel, rfl⟩), by decide +kernel, by decide +kernel, fun v H5 hv hA5 => ?_⟩
      obtain ⟨c, hcm, rfl⟩ := List.mem_map.mp hv
      refine ⟨_, hA5.ex _ _ upd_same, ?_, cs ++ [c], by simp [hl], ?_, ?_⟩
      · rw [List.length_map]
        exact sz_lt (by omega)
      · intro d hd
        rcases List.mem_append.mp hd with h | h
        · exact hc d h
        · rw [List.mem_singleton.mp h]
          exact letters_small c hcm
      · rw [List.map_append]
        exact hA5.put
    · obtain ⟨cs, hl, hc, hA3⟩ := hp
      have hlen : cs.length ≤ 8 := by omega
      refine ⟨"", D, cs.map fun c => ⟨#[c]⟩, rfl, rfl, .inl (sq_of ((hA3.ex _ _ upd_same).trans (by rw [List.map_map]; rfl))), ?_, ?_⟩
      · have e : ((cs.map fun c => (⟨#[c]⟩ : Str)).map (·.length)).sum ≤ cs.length := by
          clear hA3 hc hl hlen
          induction cs with
          | nil => exact Nat.le_refl _
          | cons c cs ih =>
            rw [List.map_cons, List.map_cons, List.sum_cons, List.length_cons]
            have : (⟨#[c]⟩ : Str).length = 1 := rfl
            omega
        have e2 : ((cs.map fun c => (⟨#[c]⟩ : Str)).length * Str.length ("" : Str)) = 0 := by
          rw [show Str.length ("" : Str) = 0 by decide +kernel, Nat.mul_zero]
        omega
      · have g0 : ∀ z : Str, z = Txt.join ("" : Str) (cs.map fun c => ⟨#[c]⟩) → z.length ≤ 8 ∧ ∀ c ∈ z.cps.toList, c < 128 := fun z hz => by
          have e : tl z = cs := by rw [hz]; exact join_signs cs
          refine ⟨by rw [len_tl, e]; exact hlen, fun c h => hc c ?_⟩
          have h : c ∈ tl z := h
          rw [e] at h
          exact h
        generalize hz : Txt.join ("" : Str) (cs.map fun c => ⟨#[c]⟩) = z
        have g := g0 z hz.symm
        have hA4 := hA3.weak (Ex.new (hA2.nh hD))
        -- if turn == 0
        refine ⟨_, rfl, rfl, _, rfl, ite2 (fun hb => ?_) (fun hb => ?_)⟩
        · exact ⟨_, rfl, q _ _ ⟨by omega, g.2⟩ hA4⟩
        · -- spot, sign
          refine ⟨_, rfl, _, rfl, _, _, rfl, rfl, b, _, G, rfl, hA4, by omega, by omega, fun sp H5 sp0 sp1 hA5 => ?_⟩
          refine ⟨_, rfl, by show 20 ≤ sizeLine; decide, fun p hp => ?_⟩
          refine ⟨b, .ref p, _, _, rfl, hA5.new hp, .inl ⟨p, rfl, sq_of upd_same⟩, by show 0 < 20; decide, by show 20 < 1073741824; decide, fun v H6 hv hA6 => ?_⟩
          have hA7 := hA6.weak (Ex.new (hA5.nh hp))
          have hv2 : ∃ y : Str, v = .str y ∧ y.length ≤ 1 ∧ ∀ c ∈ y.cps.toList, c < 128 := by
            simp only [List.mem_cons, List.not_mem_nil, or_false] at hv
            rcases hv with rfl | rfl | rfl | rfl | rfl | rfl | rfl | rfl | rfl | rfl | rfl | rfl | rfl | rfl | rfl | rfl | rfl | rfl | rfl | rfl <;> exact ⟨_, rfl, by decide +kernel, by decide +kernel⟩
          obtain ⟨y, rfl, hy⟩ := hv2
          have g1 := okS_cut none (some sp) g
          have g2 := okS_cut (some (sp + tn - 1)) none g
          have g3 := okS_append g1 hy
          have g4 := okS_append g3 g2
          refine ⟨_, rfl, _, rfl, sp, rfl, z, rfl, sz_of (by omega), _, rfl, _, _, rfl, rfl, sz_of (by have := g1.1; have := hy.1; omega), ?_⟩
          refine ⟨_, rfl, _, rfl, _, rfl, _, _, rfl, rfl, _, _, rfl, rfl, _, rfl, z, rfl, sz_of (by omega), _, _, rfl, rfl, sz_of (by have := g3.1; have := g2.1; omega), ?_⟩
          exact q _ _ ⟨Nat.le_trans g4.1 (by decide), g4.2⟩ hA7
/-! ### circles: an eye -/
def isEye (K : PySem.W.Frag) (C : Addr) (H : Hp) (v : V) : Prop := ∃ p dx fs, v = .ref p ∧ H p = some (.ins C dx fs)
def spInit (C : Addr) : Sp := fun vs H Q _ => ∃ (p dx l : Addr) (z : Str), vs = [.ref p, .str "eye", .str z, .ref l] ∧ H p = some (.ins C dx []) ∧ H l = some (.lst []) ∧ ∀ H' fs, (∀ a o, H a = some o → a ≠ p → H' a = some o) → H' p = some (.ins C dx fs) → Q .non H'
theorem ok_Circle___init (T : Txt K mg AA) : PrI P w K mg base AA.Circle p_Circle___init 1 (spInit AA.Circle) := by
  refine pri_mk T.i_Circle sc_Circle___init (fun vs H Q E h => ?_) (fun f cdv A outer s H vs Q E hr h => ?_)
  · obtain ⟨p, dx, l, z, rfl, _⟩ := h
    rfl
  · obtain ⟨p, dx, l, z, rfl, hp, hl, q⟩ := h
    have npl : p ≠ l := ne_of hp hl (by intro z; cases z)
    refine ⟨_, (pss_cons (ps_fld (pv 0) (pv 1) rfl)
      (pss_cons (ps_fld (pv 0) (pv 2) rfl)
      (pss_cons (ps_fld (pv 0) (pe_callTy call_list_of (by rfl) T.n_list PyProof.Rows.boot_list (pa_cons (pv 3) pa_nil)) rfl)
      (pss_one (ps_if (pt_cmpR op_eq (pv 1) pe_str (nomark _))
      (pss_cons (ps_fld (pv 0) pe_int rfl)
      (pss_cons (ps_fld (pv 0) pe_int rfl)
      (pss_one (ps_fld (pv 0) (pv 2) rfl))))
      pss_never))))), ?_⟩
    -- kind, name
    refine ⟨_, rfl, _, rfl, p, AA.Circle, dx, [], rfl, hp, T.c_Circle, T.a_Circle_kind, by decide, _, rfl, _, rfl, p, AA.Circle, dx, _, rfl, upd_same, T.c_Circle, T.a_Circle_name, Nat.lt_of_le_of_lt (length_putF _ _ _) (by decide), ?_⟩
    rw [upd_upd]
    -- _parts
    refine ⟨_, rfl, l, [], rfl, .inl (sq_of ((upd_ne npl.symm).trans hl)), fun l2 hl2 => ?_⟩
    have np2 : p ≠ l2 := ne_of_none upd_same hl2
    refine ⟨_, rfl, p, AA.Circle, dx, _, rfl, (upd_ne np2).trans upd_same, T.c_Circle, T.a_Circle_parts, ?_, ?_⟩
    · exact Nat.lt_of_le_of_lt (length_putF _ _ _) (Nat.lt_of_le_of_lt (Nat.add_le_add_right (length_putF _ _ _) 1) (by decide))
    generalize hfs : putF "_parts" (V.ref l2) _ = fs
    have hf3 : fs.length ≤ 3 := by
      rw [← hfs]
      exact Nat.le_trans (length_putF _ _ _) (Nat.add_le_add_right (Nat.le_trans (length_putF _ _ _) (Nat.add_le_add_right (length_putF _ _ _) 1)) 1)
    -- if kind == 'eye'
    refine ⟨_, rfl, rfl, _, rfl, ?_⟩
    rw [decide_eq_true rfl]
    refine iteT ?_
    refine ⟨_, rfl, p, AA.Circle, dx, _, rfl, upd_same, T.c_Circle, T.a_Circle_size, by omega, _, rfl, p, AA.Circle, dx, _, rfl, upd_same, T.c_Circle, T.a_Circle_depth, ?_, _, rfl, _, rfl, p, AA.Circle, dx, _, rfl, upd_same, T.c_Circle, T.a_Circle_text, ?_, ?_⟩
    · exact Nat.lt_of_le_of_lt (length_putF _ _ _) (by omega)
    · exact Nat.lt_of_le_of_lt (length_putF _ _ _) (Nat.lt_of_le_of_lt (Nat.add_le_add_right (length_putF _ _ _) 1) (by omega))
    refine q _ _ (fun a o ha hap => ?_) upd_same
    rw [upd_ne hap, upd_ne hap, upd_ne hap, upd_ne hap]
    have hn : a ≠ l2 := by
      intro e
      subst e
      rw [upd_ne hap, ha] at hl2
      cases hl2
    rw [upd_ne hn, upd_ne hap]
    exact ha
def spEye (K : PySem.W.Frag) (C : Addr) : Sp := fun vs H Q _ => ∃ (z : Str), vs = [.str z] ∧ okS z ∧ nameS z = true ∧ ∀ v H', Ex H H' → isEye K C H' v → Q v H'
theorem ok_eye (T : Txt K mg AA) : Pr P w K mg base "eye" s_eye p_eye 3 (spEye K AA.Circle) := by
  refine pr_mk T.f_eye sc_eye (fun vs H Q E h => ?_) (fun f cdv A outer s H vs Q E hr h => ?_)
  · obtain ⟨z, rfl, _⟩ := h
    rfl
  · obtain ⟨z, rfl, hz, hn, q⟩ := h
    refine ⟨_, (pss_cons (ps_if (pt_not (pt_val (pcall (ok_is_name T) hr (pa_cons (pv 0) pa_nil))))
      (pss_one ps_never)
      pss_nil)
      (pss_one (ps_ret (pmake T.m_Circle (ok_Circle___init T) hr (pa_cons pe_str (pa_cons (pv 0) (pa_cons (pe_lst pa_nil) pa_nil))))))), ?_⟩
    refine ⟨_, rfl, .str z, .s z, rfl, ⟨rfl, hz⟩, fun H1 e1 => ⟨_, rfl, ?_⟩⟩
    show if (!nameS z) = true then _ else _
    rw [hn]
    refine iteF ?_
    -- Circle('eye', name, [])
    refine ⟨_, rfl, by show 0 ≤ sizeLine; decide, fun l hl x dx hx hdx hne => ?_⟩
    have hxl : l ≠ x := ne_of_none upd_same hx
    have hdl : l ≠ dx := ne_of_none upd_same hdx
    refine ⟨x, dx, l, z, rfl, upd_same, ?_, fun H' fs hk hp => ⟨rfl, ?_⟩⟩
    · rw [upd_ne hxl, upd_ne hdl, upd_same]
    · refine q _ _ (e1.trans fun a o ha => ?_) ⟨x, dx, fs, rfl, hp⟩
      have h1 : a ≠ l := ne_of_none ha hl
      have h2 : a ≠ x := fun e => by
        subst e
        rw [upd_ne h1, ha] at hx
        cases hx
      have h3 : a ≠ dx := fun e => by
        subst e
        rw [upd_ne h1, ha] at hdx
        cases hdx
      refine hk _ _ ?_ h2
      rw [upd_ne h2, upd_ne h3, upd_ne h1]
      exact ha
end
end Eyes

set_option Elab.async false
set_option linter.all false
set_option maxRecDepth 100000
set_option maxHeartbeats 4000000
namespace Eyes
open PySem PySem.Spec PyProof.Rows L2 Evl TL
/-! ### values of any kind, made one within another -/
def NL (H : Hp) (v : V) : Prop := ∀ a xs, v = .ref a → H a ≠ some (.lst xs)
def Kinds (K : PySem.W.Frag) (H0 H : Hp) (vs : List V) : Prop := ∀ v ∈ vs, ∃ k, Knd K H v k ∧ NL H0 v
def EvV (K : PySem.W.Frag) (te : TE) (σ : L2.St) (H : Hp) : Prop := ∀ H1, Ex H H1 → ∀ Q : VK, (∀ v H2, Ex H1 H2 → (∃ k, Knd K H2 v k ∧ NL H v) → Q v H2) → te σ H1 Q
def EvK (K : PySem.W.Frag) (ta : TA) (σ : L2.St) (H : Hp) (n : Nat) : Prop := ∀ H1, Ex H H1 → ∀ Q : List V → Hp → Prop, (∀ vs H2, Ex H1 H2 → vs.length = n → Kinds K H H2 vs → Q vs H2) → ta σ H1 Q
theorem Kinds.mono {K : PySem.W.Frag} {H0 H H' : Hp} {vs : List V} (e : Ex H H') (h : Kinds K H0 H vs) : Kinds K H0 H' vs := fun v hv => by
  obtain ⟨k, hk, hn⟩ := h v hv
  exact ⟨k, Knd.mono e hk, hn⟩
section
variable {K : PySem.W.Frag} {te : TE} {ta tr : TA} {σ : L2.St} {H : Hp} {n : Nat} {v : V}
theorem evk_nil : EvK K tNil σ H 0 := fun H1 _ Q q => q [] H1 (Ex.refl _) rfl (fun _ h => nomatch h)
theorem evk_cons (h : EvV K te σ H) (hr : EvK K tr σ H n) : EvK K (tCons te tr) σ H (n + 1) := fun H1 e Q q =>
  h H1 e _ fun v H2 e2 hv => hr H2 (e.trans e2) _ fun vs H3 e3 hl hk => q (v :: vs) H3 (e2.trans e3) (congrArg Nat.succ hl) fun u hu => by
    rcases List.mem_cons.mp hu with rfl | hu
    · obtain ⟨k, hk, hn⟩ := hv
      exact ⟨k, Knd.mono e3 hk, hn⟩
    · exact hk u hu
theorem nl_c (h : ∀ a, v ≠ .ref a) : NL H v := fun a _ e => absurd e (h a)
theorem evv_c (h : ∀ H, ∃ k, Knd K H v k) (hv : ∀ a, v ≠ .ref a := by intro a; exact fun z => nomatch z) : EvV K (tC v) σ H := fun H1 _ Q q => q v H1 (Ex.refl _) (by obtain ⟨k, hk⟩ := h H1; exact ⟨k, hk, nl_c hv⟩)
theorem evv_var {i : Nat} (h : σ[i]? = some (some v)) (hk : ∃ k, Knd K H v k) (hn : NL H v) : EvV K (tVar i) σ H := fun H1 e Q q => ⟨v, h, q v H1 (Ex.refl _) (by obtain ⟨k, hk⟩ := hk; exact ⟨k, Knd.mono e hk, hn⟩)⟩
theorem knd_type {t : String} (h : TyX K H v (.type t)) (h1 : kitB t "str" = some false) (h2 : kitB t "int" = some false) (h3 : kitB t "bool" = some false) : ∃ k, Knd K H v k := ⟨.o, _, h, kit_ty h1, kit_ty h2, kit_ty h3⟩
theorem knd_tup {p : Addr} {xs : List V} (h : H p = some (.tup xs)) : ∃ k, Knd K H (.ref p) k := knd_type (t := "tuple") (.base (.tup h)) (by decide +kernel) (by decide +kernel) (by decide +kernel)
theorem knd_lst {p : Addr} {xs : List V} (h : H p = some (.lst xs)) : ∃ k, Knd K H (.ref p) k := knd_type (t := "list") (.base (.lst h)) (by decide +kernel) (by decide +kernel) (by decide +kernel)
theorem knd_non : ∃ k, Knd K H .non k := knd_type (t := "NoneType") (.base .non) (by decide +kernel) (by decide +kernel) (by decide +kernel)
theorem nl_new {p : Addr} (h : H p = none) : NL H (.ref p) := fun a xs e z => by
  cases e
  rw [h] at z
  cases z
theorem evv_tup (h : EvK K ta σ H n) (hn : n ≤ 100000) : EvV K (tTup ta) σ H := fun H1 e Q q =>
  h H1 e _ fun vs H2 e2 hl _ => ⟨sz_of (by omega), fun p hp => q (.ref p) _ (e2.trans (Ex.new hp)) (by obtain ⟨k, hk⟩ := knd_tup (K := K) (H := upd H2 p (.tup vs)) upd_same; exact ⟨k, hk, nl_new (fresh_back (e.trans e2) hp)⟩)⟩
theorem evv_lst (h : EvK K ta σ H n) (hn : n ≤ 100000) : EvV K (tLst ta) σ H := fun H1 e Q q =>
  h H1 e _ fun vs H2 e2 hl _ => ⟨sz_of (by omega), fun p hp => q (.ref p) _ (e2.trans (Ex.new hp)) (by obtain ⟨k, hk⟩ := knd_lst (K := K) (H := upd H2 p (.lst vs)) upd_same; exact ⟨k, hk, nl_new (fresh_back (e.trans e2) hp)⟩)⟩
theorem evk_lst (h : EvK K ta σ H n) (hn : n ≤ 100000) (Q : VK) (q : ∀ p vs H1 H2, Ex H H1 → H1 p = none → H2 = upd H1 p (.lst vs) → vs.length = n → Kinds K H H2 vs → Q (.ref p) H2) : tLst ta σ H Q :=
  h H (Ex.refl _) _ fun vs H2 e2 hl hk => ⟨sz_of (by omega), fun p hp => q p vs H2 _ e2 hp rfl hl (hk.mono (Ex.new hp))⟩
theorem TyX.at {H' : Hp} {t : Value} (h : TyX K H v t) (e : ∀ a, v = .ref a → H' a = H a) : TyX K H' v t := by
  cases h with
  | base h =>
    cases h with
    | non => exact .base .non
    | bl b => exact .base (.bl b)
    | int b => exact .base (.int b)
    | str b => exact .base (.str b)
    | flt b => exact .base (.flt b)
    | lst h => exact .base (.lst ((e _ rfl).trans h))
    | frz h => exact .base (.frz ((e _ rfl).trans h))
    | tup h => exact .base (.tup ((e _ rfl).trans h))
    | dK h => exact .base (.dK ((e _ rfl).trans h))
    | dT h => exact .base (.dT ((e _ rfl).trans h))
    | ins h h1 h2 h3 h4 h5 => exact .base (.ins ((e _ rfl).trans h) h1 h2 h3 h4 h5)
  | byt b => exact .byt b
  | set h => exact .set ((e _ rfl).trans h)
  | kList h c => exact .kList h c
  | kTuple h c => exact .kTuple h c
  | kDict h c => exact .kDict h c
  | fTuple h => exact .fTuple ((e _ rfl).trans h)
  | fDict h => exact .fDict ((e _ rfl).trans h)
theorem Knd.at {H' : Hp} {k : Tk} (h : Knd K H v k) (e : ∀ a, v = .ref a → H' a = H a) : Knd K H' v k := by
  cases k with
  | s z => exact h
  | i n => exact h
  | b c => exact h
  | o => obtain ⟨t, h1, h2⟩ := h; exact ⟨t, TyX.at h1 e, h2⟩
theorem At.all {b : Addr} {G H0 H : Hp} (h : At b G H0) (e : Ex H0 H) : ∃ G', At b G' H ∧ Ex G G' ∧ ∀ a, (∀ xs, H0 a ≠ some (.lst xs)) → G' a = H a := by
  obtain ⟨c, ns, i, r, m, n, B⟩ := h
  refine ⟨fun a => if a = b ∨ a = c then none else H a, ⟨c, ns, i, r, m, n, if_pos (.inl rfl), if_pos (.inr rfl), fun a o ha => ?_, e _ _ B.at_, e _ _ B.cells, B.ne, B.i0, B.r0, B.m0, B.m1⟩, fun a o ha => ?_, fun a ha => ?_⟩
  · by_cases hab : a = b ∨ a = c
    · rw [show (if a = b ∨ a = c then none else H a) = none from if_pos hab] at ha
      cases ha
    · rw [show (if a = b ∨ a = c then none else H a) = H a from if_neg hab] at ha
      exact ha
  · have hab : ¬ (a = b ∨ a = c) := by
      rintro (rfl | rfl)
      · rw [B.nb] at ha
        cases ha
      · rw [B.nc] at ha
        cases ha
    exact (show (if a = b ∨ a = c then none else H a) = H a from if_neg hab).trans (e _ _ (B.ex _ _ ha))
  · refine if_neg ?_
    rintro (rfl | rfl)
    · exact ha _ B.at_
    · exact ha _ B.cells
end
def spOther (K : PySem.W.Frag) : Sp := fun vs H Q _ => ∃ (b : Addr) (G : Hp), vs = [.ref b] ∧ At b G H ∧ ∀ v k H', Knd K H' v k → At b G H' → Q v H'
def spValue (K : PySem.W.Frag) : Sp := fun vs H Q _ => ∃ (b : Addr) (G : Hp) (lo hi : Int), vs = [.ref b, .int lo, .int hi] ∧ At b G H ∧ ∀ v k H', Knd K H' v k → At b G H' → Q v H'
section
variable {P : Program} {w : World} {K : PySem.W.Frag} {mg : Str → Option Value} {base : Heap} {AA : Adr}
theorem knd_eye (T : Txt K mg AA) {H : Hp} {v : V} (h : isEye K AA.Circle H v) : ∃ k, Knd K H v k := by
  obtain ⟨p, dx, fs, rfl, h⟩ := h
  exact ⟨.o, _, .base (.ins h T.c_Circle T.y_Circle.ty1 T.y_Circle.ty2 T.y_Circle.ty3 T.y_Circle.ty4), T.y_Circle.k_str, T.y_Circle.k_int, T.y_Circle.k_bool⟩
theorem ok_law_other (T : Txt K mg AA) : Pr P w K mg base "_law_other" s_law_other p_law_other 4 (spOther K) := by
  refine pr_mk T.f_law_other sc_law_other (fun vs H Q E h => ?_) (fun f cdv A outer s H vs Q E hr h => ?_)
  · obtain ⟨b, G, rfl, _⟩ := h
    rfl
  · obtain ⟨b, G, rfl, hA, q⟩ := h
    refine ⟨_, (pss_cons (ps_set (i := 1) sc_law_other.nd rfl (.inl rfl) (pcall (ok_eye T) hr (pa_cons pe_str pa_nil)))
      (pss_one (ps_ret (pcall (ok_law_of T) hr (pa_cons (pv 0) (pa_cons (pe_lst (pa_cons pe_non (pa_cons pe_bl (pa_cons pe_bl (pa_cons (pe_tup pa_nil) (pa_cons (pe_lst pa_nil) (pa_cons (pe_tup (pa_cons pe_str pa_nil)) (pa_cons (pe_lst (pa_cons pe_str pa_nil)) (pa_cons (pe_tup (pa_cons pe_int pa_nil)) (pa_cons (pe_lst (pa_cons pe_int pa_nil)) (pa_cons (pe_tup (pa_cons pe_str (pa_cons pe_str pa_nil))) (pa_cons (pe_lst (pa_cons (pe_lst (pa_cons pe_str pa_nil)) pa_nil)) (pa_cons (pv 1) (pa_cons (pe_tup (pa_cons (pv 1) pa_nil)) (pa_cons (pe_lst (pa_cons pe_non pa_nil)) (pa_cons (pe_tup (pa_cons pe_bl pa_nil)) (pa_cons (pe_tup (pa_cons (pe_tup (pa_cons pe_int pa_nil)) pa_nil)) pa_nil))))))))))))))))) pa_nil)))))), ?_⟩
    refine ⟨"a", rfl, ⟨by decide +kernel, by decide +kernel⟩, by decide +kernel, fun v H1 e1 he => ?_⟩
    have hA1 := hA.mono e1
    have kx := knd_eye T he
    have nx : NL H1 v := by
      obtain ⟨p, dx, fs, rfl, h⟩ := he
      intro a xs e z
      cases e
      rw [h] at z
      cases z
    refine ⟨_, rfl, ?_⟩
    have cs : ∀ z : Str, okS z → ∀ H, ∃ k, Knd K H (.str z) k := fun z hz H => ⟨.s z, rfl, hz⟩
    have ci : ∀ (i : Int) H, ∃ k, Knd K H (.int i) k := fun i H => ⟨.i i, rfl⟩
    have cb : ∀ (c : Bool) H, ∃ k, Knd K H (.bl c) k := fun i H => ⟨.b i, rfl⟩
    have ca : okS "a" := ⟨by decide +kernel, by decide +kernel⟩
    have cbb : okS "b" := ⟨by decide +kernel, by decide +kernel⟩
    refine evk_lst (K := K) (n := 16) (evk_cons (evv_c fun _ => knd_non) (evk_cons (evv_c (cb _)) (evk_cons (evv_c (cb _)) (evk_cons (evv_tup evk_nil (by decide)) (evk_cons (evv_lst evk_nil (by decide))
      (evk_cons (evv_tup (evk_cons (evv_c (cs _ ca)) evk_nil) (by decide)) (evk_cons (evv_lst (evk_cons (evv_c (cs _ ca)) evk_nil) (by decide)) (evk_cons (evv_tup (evk_cons (evv_c (ci _)) evk_nil) (by decide)) (evk_cons (evv_lst (evk_cons (evv_c (ci _)) evk_nil) (by decide))
      (evk_cons (evv_tup (evk_cons (evv_c (cs _ ca)) (evk_cons (evv_c (cs _ cbb)) evk_nil)) (by decide)) (evk_cons (evv_lst (evk_cons (evv_lst (evk_cons (evv_c (cs _ ca)) evk_nil) (by decide)) evk_nil) (by decide)) (evk_cons (evv_var rfl kx nx)
      (evk_cons (evv_tup (evk_cons (evv_var rfl kx nx) evk_nil) (by decide)) (evk_cons (evv_lst (evk_cons (evv_c fun _ => knd_non) evk_nil) (by decide)) (evk_cons (evv_tup (evk_cons (evv_c (cb _)) evk_nil) (by decide)) (evk_cons (evv_tup (evk_cons (evv_tup (evk_cons (evv_c (ci _)) evk_nil) (by decide)) evk_nil) (by decide)) evk_nil)))))))))))))))) (by decide) _ fun p vs H2 H3 e2 hp e3 hl hk => ?_
    subst e3
    obtain ⟨G', hA2, eG, hG⟩ := hA1.all e2
    have hpG := hA2.nh hp
    refine ⟨b, .ref p, _, vs, rfl, hA2.new hp, .inl ⟨p, rfl, sq_of upd_same⟩, by omega, by omega, fun v H6 hv hA6 => ?_⟩
    obtain ⟨k, hkv, hn⟩ := hk v hv
    have hkG : Knd K (upd G' p (.lst vs)) v k := hkv.at fun a ea => by
      by_cases hap : a = p
      · subst hap
        rw [upd_same, upd_same]
      · rw [upd_ne hap, upd_ne hap]
        exact hG a fun xs => hn a xs ea
    exact q v k H6 (Knd.mono hA6.ex hkG) (hA6.weak (eG.trans (Ex.new hpG)))
theorem ok_law_value (T : Txt K mg AA) : Pr P w K mg base "_law_value" s_law_value p_law_value 5 (spValue K) := by
  refine pr_mk T.f_law_value sc_law_value (fun vs H Q E h => ?_) (fun f cdv A outer s H vs Q E hr h => ?_)
  · obtain ⟨b, G, lo, hi, rfl, _⟩ := h
    rfl
  · obtain ⟨b, G, lo, hi, rfl, hA, q⟩ := h
    refine ⟨_, (pss_cons (ps_set (i := 3) sc_law_value.nd rfl (.inl rfl) (pcall (ok_law_draw T) hr (pa_cons (pv 0) (pa_cons pe_int pa_nil))))
      (pss_cons (ps_if (pt_cmpR op_lt (pv 3) pe_int (nomark _))
      (pss_one (ps_ret (pcall (ok_law_cut_to T) hr (pa_cons (pe_op op_sub (pe_op op_add (pe_ix (ix_listK (K := K) rfl) (pe_lst (pa_cons (pv 1) (pa_cons (pv 2) pa_nil))) (pe_op op_mod (pv 3) pe_int) (fun _ _ => rfl)) (pcall (ok_law_draw T) hr (pa_cons (pv 0) (pa_cons pe_int pa_nil)))) pe_int) pa_nil))))
      pss_nil)
      (pss_cons (ps_if (pt_cmpR op_lt (pv 3) pe_int (nomark _))
      (pss_one (ps_ret (pcall (ok_law_word T) hr (pa_cons (pv 0) pa_nil))))
      pss_nil)
      (pss_one (ps_ret (pe_ifExp (pt_cmpR op_eq (pv 3) pe_int (nomark _)) (pcall (ok_law_other T) hr (pa_cons (pv 0) pa_nil)) (pcall (ok_law_end T) hr (pa_cons (pv 0) pa_nil)))))))), ?_⟩
    refine ⟨_, rfl, b, 8, G, rfl, hA, by decide, by decide, fun tn H1 t0 t1 hA1 => ?_⟩
    -- if turn < 4
    refine ⟨_, rfl, tn, 4, rfl, rfl, _, rfl, ite2 (fun h4 => ?_) (fun h4 => ?_)⟩
    · refine ⟨_, rfl, _, rfl, by show 2 ≤ sizeLine; decide, fun p hp => ⟨_, rfl, tn, 2, rfl, rfl, by show (0 : Int) < 2; decide, ?_⟩⟩
      have hm : ∃ n : Int, ∃ j : Nat, tn % 2 = (j : Int) ∧ [V.int lo, V.int hi][j]? = some (V.int n) := by
        rcases (show tn % 2 = 0 ∨ tn % 2 = 1 by omega) with e | e
        · exact ⟨lo, 0, e, rfl⟩
        · exact ⟨hi, 1, e, rfl⟩
      obtain ⟨n, j, ej, hj⟩ := hm
      refine ⟨p, _, _, _, rfl, rfl, sq_of upd_same, at_of ej hj, ?_⟩
      refine ⟨_, rfl, b, 3, G, rfl, (hA1.new hp).weak (Ex.new (hA1.nh hp)), by decide, by decide, fun d H2 d0 d1 hA2 => ⟨_, _, rfl, rfl, _, _, rfl, rfl, _, rfl, fun m => ?_⟩⟩
      exact q _ (.i m) _ rfl hA2
    · -- elif turn < 6
      refine ⟨_, rfl, tn, 6, rfl, rfl, _, rfl, ite2 (fun h6 => ?_) (fun h6 => ?_)⟩
      · exact ⟨_, rfl, b, G, rfl, hA1, fun z H2 hz hA2 => q _ (.s z) _ ⟨rfl, hz⟩ hA2⟩
      · refine ⟨_, rfl, rfl, _, rfl, ite2 (fun h7 => ?_) (fun h7 => ?_)⟩
        · exact ⟨_, rfl, b, G, rfl, hA1, fun v k H2 hk hA2 => q v k _ hk hA2⟩
        · exact ⟨_, rfl, b, G, rfl, hA1, fun n H2 hA2 => q _ (.i n) _ rfl hA2⟩
end
end Eyes

set_option Elab.async false
set_option linter.all false
set_option maxRecDepth 100000
set_option maxHeartbeats 4000000
namespace Eyes
open PySem PySem.Spec PyProof.Rows L2 Evl TL
theorem rep3 {H : Hp} {p : Addr} {a b c : Bool} (h : H p = some (.lst [.bl a, .bl b, .bl c])) : Rep H (.ref p) (.list [.bool a, .bool b, .bool c]) := .lst h (.cons (.bl a) (.cons (.bl b) (.cons (.bl c) .nil)))
theorem rep2 {H : Hp} {p : Addr} {a b : Bool} (h : H p = some (.lst [.bl a, .bl b])) : Rep H (.ref p) (.list [.bool a, .bool b]) := .lst h (.cons (.bl a) (.cons (.bl b) .nil))
theorem d3 (a b c : Bool) : PyData.depth (.list [.bool a, .bool b, .bool c]) < 2 := by simp [PyData.depth, PyData.depthAll]
theorem w3 (a b c : Bool) : wid (.list [.bool a, .bool b, .bool c]) ≤ 90000 := by simp [wid, widAll]
theorem d2 (a b : Bool) : PyData.depth (.list [.bool a, .bool b]) < 2 := by simp [PyData.depth, PyData.depthAll]
theorem w2 (a b : Bool) : wid (.list [.bool a, .bool b]) ≤ 90000 := by simp [wid, widAll]
def spLaw (K : PySem.W.Frag) : Sp := fun vs H Q _ => ∃ (a : Addr) (ns : List Int), vs = [.ref a] ∧ SqL K H a (ns.map V.int) ∧ ns.length ≤ 63 ∧ ∀ H', Q (.bl true) H'
section
variable {P : Program} {w : World} {K : PySem.W.Frag} {mg : Str → Option Value} {base : Heap} {AA : Adr}
theorem ok_law (T : Txt K mg AA) : Pr P w K mg base "law" s_law p_law 6 (spLaw K) := by
  refine pr_mk T.f_law sc_law (fun vs H Q E h => ?_) (fun f cdv A outer s H vs Q E hr h => ?_)
  · obtain ⟨a, ns, rfl, _⟩ := h
    rfl
  · obtain ⟨a, ns, rfl, hS, hlen, q⟩ := h
    refine ⟨_, (pss_cons (ps_set (i := 1) sc_law.nd rfl (.inl rfl) (pcall (ok_law_bag T) hr (pa_cons (pv 0) pa_nil)))
      (pss_cons (ps_for PassesOwn.never rfl (pi_range1 (by rfl) T.n_range (pa_cons pe_int pa_nil)) (pg_name (i := 2) sc_law.nd rfl (.inl rfl))
      (pss_cons (ps_par (i := 3) (j := 4) rfl sc_law.nd rfl rfl (by decide) rfl rfl (pa_cons (pcall (ok_law_end T) hr (pa_cons (pv 1) pa_nil)) (pa_cons (pcall (ok_law_end T) hr (pa_cons (pv 1) pa_nil)) pa_nil)) rfl)
      (pss_cons (ps_set (i := 5) sc_law.nd rfl (.inl rfl) (pcall (ok_law_value T) hr (pa_cons (pv 1) (pa_cons (pv 3) (pa_cons (pv 4) pa_nil)))))
      (pss_cons (ps_set (i := 6) sc_law.nd rfl (.inl rfl) (pcall (ok_law_is_title T) hr (pa_cons (pv 5) pa_nil)))
      (pss_cons (ps_if (pt_not (pt_val (pcall (ok_law_same T 2) hr (pa_cons (pe_lst (pa_cons (pcall (ok_is_name T) hr (pa_cons (pv 5) pa_nil)) (pa_cons (pcallN0 (ok_is_name T) kw_is_name_0_value hr (pk_cons (pv 5) pk_nil)) (pa_cons (pcall (ok_is_name T) hr (pa_cons (pv 5) pa_nil)) pa_nil)))) (pa_cons (pe_lst (pa_cons (pv 6) (pa_cons (pv 6) (pa_cons (pv 6) pa_nil)))) pa_nil)))))
      (pss_one (ps_ret pe_bl))
      pss_nil)
      (pss_cons (ps_set (i := 6) sc_law.nd rfl (.inl rfl) (pe_and (pe_callB call_isi (by rfl) T.n_isinstance PyProof.Rows.boot_isinstance (pa_cons (pv 5) (pa_cons (pe_bltn (v := .ty "int") (by rfl) T.n_int (by decide +kernel) rfl) pa_nil))) (pe_and (pe_not (pe_callB call_isi (by rfl) T.n_isinstance PyProof.Rows.boot_isinstance (pa_cons (pv 5) (pa_cons (pe_bltn (v := .ty "bool") (by rfl) T.n_bool (by decide +kernel) rfl) pa_nil)))) (pe_and (pe_cmpR op_ge (pv 5) (pv 3) (nomark _)) (pe_one (pe_cmpR op_le (pv 5) (pv 4) (nomark _)))))))
      (pss_cons (ps_set (i := 7) sc_law.nd rfl (.inl rfl) (pe_lst (pa_cons (pcall (ok_is_number T) hr (pa_cons (pv 5) (pa_cons (pv 3) (pa_cons (pv 4) pa_nil)))) (pa_cons (pcallN0 (ok_is_number T) kw_is_number_0_most_value_least hr (pk_cons (pv 4) (pk_cons (pv 5) (pk_cons (pv 3) pk_nil)))) (pa_cons (pcallN (ok_is_number T) kw_is_number_2_most hr (pa_cons (pv 5) (pa_cons (pv 3) pa_nil)) (pk_cons (pv 4) pk_nil)) pa_nil)))))
      (pss_cons (ps_if (pt_not (pt_val (pcall (ok_law_same T 2) hr (pa_cons (pv 7) (pa_cons (pe_lst (pa_cons (pv 6) (pa_cons (pv 6) (pa_cons (pv 6) pa_nil)))) pa_nil)))))
      (pss_one (ps_ret pe_bl))
      pss_nil)
      (pss_cons (ps_set (i := 8) sc_law.nd rfl (.inl rfl) (pcall (ok_law_word T) hr (pa_cons (pv 1) pa_nil)))
      (pss_cons (ps_if (pt_not (pt_val (pcall (ok_law_same T 2) hr (pa_cons (pe_lst (pa_cons (pcall (ok_is_name T) hr (pa_cons (pv 8) pa_nil)) (pa_cons (pcall (ok_is_number T) hr (pa_cons (pv 8) (pa_cons (pv 3) (pa_cons (pv 4) pa_nil)))) pa_nil))) (pa_cons (pe_lst (pa_cons (pcall (ok_law_is_title T) hr (pa_cons (pv 8) pa_nil)) (pa_cons pe_bl pa_nil))) pa_nil)))))
      (pss_one (ps_ret pe_bl))
      pss_nil)
      (pss_one (ps_if (pt_not (pt_val (pcall (ok_law_same T 2) hr (pa_cons (pe_lst (pa_cons (pcall (ok_is_number T) hr (pa_cons (pv 3) (pa_cons (pv 3) (pa_cons (pv 3) pa_nil)))) (pa_cons (pcall (ok_is_number T) hr (pa_cons (pv 4) (pa_cons (pv 3) (pa_cons (pv 4) pa_nil)))) (pa_cons (pcall (ok_is_number T) hr (pa_cons pe_bl (pa_cons pe_int (pa_cons pe_int pa_nil)))) pa_nil)))) (pa_cons (pe_lst (pa_cons pe_bl (pa_cons (pe_cmpR op_ge (pv 4) (pv 3) (nomark _)) (pa_cons pe_bl pa_nil)))) pa_nil)))))
      (pss_one (ps_ret pe_bl))
      pss_nil))))))))))))
      (pss_one (ps_ret (pcall (ok_law_same T 2) hr (pa_cons (pe_lst (pa_cons (pcall (ok_is_name T) hr (pa_cons pe_str pa_nil)) (pa_cons (pcall (ok_is_name T) hr (pa_cons pe_str pa_nil)) (pa_cons (pcall (ok_is_name T) hr (pa_cons pe_str pa_nil)) pa_nil)))) (pa_cons (pe_lst (pa_cons pe_bl (pa_cons pe_bl (pa_cons pe_bl pa_nil)))) pa_nil))))))), ?_⟩
    refine ⟨_, rfl, a, ns, rfl, hS, fun b H1 hb hA1 => ?_⟩
    refine ⟨20, rfl, by decide, by decide, for_range (lo := 0) (n := 20) (fun _ σ H' => ∃ y2 y3 y4 y5 y6 y7 y8, σ = [some (.ref a), some (.ref b), y2, y3, y4, y5, y6, y7, y8] ∧ At b H H') ⟨_, _, _, _, _, _, _, rfl, hA1⟩ (fun i σ H2 hi hp => ?_) (fun σ H2 hp => ?_)⟩
    · obtain ⟨y2, y3, y4, y5, y6, y7, y8, rfl, hA⟩ := hp
      refine ⟨_, rfl, b, H, rfl, hA, fun lo H3 hA3 => ⟨_, rfl, b, H, rfl, hA3, fun hi H4 hA4 => ⟨_, _, rfl, ?_⟩⟩⟩
      -- x
      refine ⟨_, rfl, _, rfl, _, rfl, b, H, lo, hi, rfl, hA4, fun v k H5 hk hA5 => ?_⟩
      refine ⟨_, rfl, v, k, rfl, hk, fun H6 e6 => ?_⟩
      have hA6 := hA5.mono e6
      have hk := Knd.mono e6 hk
      -- is_name three times, and the law's own look three times
      refine ⟨_, rfl, v, k, rfl, hk, fun H7 e7 => ⟨_, rfl, rfl, rfl, v, k, rfl, Knd.mono e7 hk, fun H8 e8 => ⟨_, rfl, v, k, rfl, Knd.mono (e7.trans e8) hk, fun H9 e9 => ⟨by show 3 ≤ sizeLine; decide, fun p hp => ?_⟩⟩⟩⟩
      refine ⟨_, rfl, _, rfl, _, rfl, by show 3 ≤ sizeLine; decide, fun p2 hp2 => ?_⟩
      have e10 := ((e7.trans e8).trans e9).trans ((Ex.new (o := HO.lst [.bl (nameK k), .bl (nameK k), .bl (nameK k)]) hp).trans (Ex.new (o := HO.lst [.bl (nameK k), .bl (nameK k), .bl (nameK k)]) hp2))
      refine ⟨.ref p, .ref p2, _, rfl, rep3 (Ex.new hp2 _ _ upd_same), rep3 upd_same, d3 _ _ _, w3 _ _ _, fun H11 e11 => ⟨_, rfl, ?_⟩⟩
      refine iteF ?_
      have hA11 := hA6.mono (e10.trans e11)
      have hk := Knd.mono (e10.trans e11) hk
      clear hA6 hA5 hA4 hA3 hA hA1 e11 hp2 hp e9 e8 e7 e10
      -- due
      have due : ∀ Q : VK, Q (.bl (numK lo hi k)) H11 → tAndV (tCB (rIsi K) (tCons (tVar 5) (tCons (tC (.ty "int")) tNil))) (tAndV (tNotV (tCB (rIsi K) (tCons (tVar 5) (tCons (tC (.ty "bool")) tNil)))) (tAndV (tOp (rI0 fun i j => .bl (decide (j ≤ i))) (tVar 5) (tVar 3)) (tOp (rI0 fun i j => .bl (decide (i ≤ j))) (tVar 5) (tVar 4))))
          [some (.ref a), some (.ref b), some (.int ((0 : Int) + (i : Int))), some (.int lo), some (.int hi), some v, some (.bl (nameK k)), y7, y8] H11 Q := by
        intro Q hQ
        obtain ⟨t, ht, hs, hin, hb⟩ := hk.ty
        refine ⟨_, rfl, v, .ty "int", _, _, _, rfl, .ty _, ht, hin, _, rfl, ?_⟩
        cases k with
        | s z => exact hQ
        | o => exact hQ
        | b c => exact ⟨_, rfl, v, .ty "bool", _, _, _, rfl, .ty _, ht, hb, _, rfl, _, rfl, hQ⟩
        | i n =>
          cases hk
          refine ⟨_, rfl, .int n, .ty "bool", _, _, _, rfl, .ty _, ht, hb, _, rfl, _, rfl, ?_⟩
          refine ⟨_, rfl, _, rfl, n, lo, rfl, rfl, _, rfl, ?_⟩
          have e : numK lo hi (.i n) = (decide (lo ≤ n) && decide (n ≤ hi)) := rfl
          rw [e] at hQ
          by_cases h : lo ≤ n
          · rw [decide_eq_true h] at hQ ⊢
            exact iteT ⟨_, rfl, _, rfl, n, hi, rfl, rfl, hQ⟩
          · rw [decide_eq_false h] at hQ ⊢
            exact iteF hQ
      refine due _ ?_
      -- told
      refine ⟨_, rfl, _, rfl, _, rfl, v, k, lo, hi, rfl, hk, ?_⟩
      refine ⟨_, rfl, _, rfl, _, rfl, rfl, rfl, v, k, lo, hi, rfl, hk, ?_⟩
      refine ⟨_, rfl, _, rfl, _, rfl, rfl, rfl, v, k, lo, hi, rfl, hk, by show 3 ≤ sizeLine; decide, fun p hp => ?_⟩
      refine ⟨_, rfl, _, rfl, _, rfl, _, rfl, by show 3 ≤ sizeLine; decide, fun p2 hp2 => ?_⟩
      refine ⟨.ref p, .ref p2, _, rfl, rep3 (Ex.new hp2 _ _ upd_same), rep3 upd_same, d3 _ _ _, w3 _ _ _, fun H12 e12 => ⟨_, rfl, ?_⟩⟩
      refine iteF ?_
      have hA12 := hA11.mono (((Ex.new hp).trans (Ex.new hp2)).trans e12)
      clear e12 hp2 hp hA11 due hk
      -- word
      refine ⟨_, rfl, b, H, rfl, hA12, fun z H13 hz hA13 => ?_⟩
      refine ⟨_, rfl, .str z, .s z, rfl, ⟨rfl, hz⟩, fun H14 e14 => ⟨_, rfl, _, rfl, _, rfl, .str z, .s z, lo, hi, rfl, ⟨rfl, hz⟩, by show 2 ≤ sizeLine; decide, fun p hp => ?_⟩⟩
      refine ⟨_, rfl, .str z, .s z, rfl, ⟨rfl, hz⟩, fun H15 e15 => ⟨by show 2 ≤ sizeLine; decide, fun p2 hp2 => ?_⟩⟩
      refine ⟨.ref p, .ref p2, _, rfl, rep2 (Ex.new hp2 _ _ (e15 _ _ upd_same)), rep2 upd_same, d2 _ _, w2 _ _, fun H16 e16 => ⟨_, rfl, ?_⟩⟩
      refine iteF ?_
      have hA16 := hA13.mono (e14.trans ((Ex.new hp).trans (e15.trans ((Ex.new hp2).trans e16))))
      clear hA13 hA12 e14 e15 e16 hp hp2
      -- the bounds themselves
      refine ⟨_, rfl, _, rfl, _, rfl, .int lo, .i lo, lo, lo, rfl, rfl, ?_⟩
      refine ⟨_, rfl, _, rfl, _, rfl, .int hi, .i hi, lo, hi, rfl, rfl, ?_⟩
      refine ⟨.bl true, .b true, 0, 1, rfl, rfl, by show 3 ≤ sizeLine; decide, fun p hp => ?_⟩
      refine ⟨_, rfl, _, rfl, hi, lo, rfl, rfl, by show 3 ≤ sizeLine; decide, fun p2 hp2 => ?_⟩
      have e1 : numK lo lo (.i lo) = true := by
        show (decide (lo ≤ lo) && decide (lo ≤ lo)) = true
        rw [decide_eq_true (Int.le_refl lo)]
        rfl
      have e2 : numK lo hi (.i hi) = decide (lo ≤ hi) := by
        show (decide (lo ≤ hi) && decide (hi ≤ hi)) = decide (lo ≤ hi)
        rw [decide_eq_true (Int.le_refl hi), Bool.and_true]
      have e3 : numK 0 1 (.b true) = false := rfl
      refine ⟨.ref p, .ref p2, _, rfl, rep3 (Ex.new hp2 _ _ (upd_same.trans (by rw [e1, e2, e3]))), rep3 upd_same, d3 _ _ _, w3 _ _ _, fun H17 e17 => ⟨_, rfl, ?_⟩⟩
      refine iteF ?_
      exact ⟨_, _, _, _, _, _, _, rfl, hA16.mono (((Ex.new hp).trans (Ex.new hp2)).trans e17)⟩
    · obtain ⟨y2, y3, y4, y5, y6, y7, y8, rfl, hA⟩ := hp
      refine ⟨.str "abcdef", .s "abcdef", rfl, ⟨rfl, by decide +kernel, by decide +kernel⟩, fun H3 e3 => ⟨.str "abcdefg", .s "abcdefg", rfl, ⟨rfl, by decide +kernel, by decide +kernel⟩, fun H4 e4 => ⟨.str "", .s "", rfl, ⟨rfl, by decide +kernel, by decide +kernel⟩, fun H5 e5 => ⟨by show 3 ≤ sizeLine; decide, fun p hp => ?_⟩⟩⟩⟩
      refine ⟨by show 3 ≤ sizeLine; decide, fun p2 hp2 => ?_⟩
      have k1 : nameK (.s "abcdef") = true := by decide +kernel
      have k2 : nameK (.s "abcdefg") = false := by decide +kernel
      have k3 : nameK (.s "") = false := by decide +kernel
      refine ⟨.ref p, .ref p2, _, rfl, rep3 (Ex.new hp2 _ _ (upd_same.trans (by rw [k1, k2, k3]))), rep3 upd_same, d3 _ _ _, w3 _ _ _, fun H6 e6 => ?_⟩
      exact q _
end
end Eyes

set_option Elab.async false
set_option linter.all false
set_option maxRecDepth 100000
set_option maxHeartbeats 4000000
namespace Eyes
open PySem PySem.Spec PyProof.Rows L2
set_option maxHeartbeats 0 in
theorem txt_mk {K : PySem.W.Frag} {h : Heap} {mg : Str → Option Value} (X : K.In h) (G : h.Ns mainGlobals mg) {z_Circle : Addr} {t19 : Tok} {t20 : Tok} {t21 : Tok} {t32 : Tok} {f33 : Addr} {oc33 : Value} {od33 : Option Addr} {an33 : Option Addr} {sl33 : Array (Option Value)} {kV33 : Value} {dc33 : Value} {pm33 : Value} {cd33 : Value} {ct33 : Value} {f34 : Addr} {oc34 : Value} {od34 : Option Addr} {an34 : Option Addr} {sl34 : Array (Option Value)} {kV34 : Value} {dc34 : Value} {pm34 : Value} {cd34 : Value} {ct34 : Value} {f35 : Addr} {oc35 : Value} {od35 : Option Addr} {an35 : Option Addr} {sl35 : Array (Option Value)} {kV35 : Value} {dc35 : Value} {pm35 : Value} {cd35 : Value} {ct35 : Value} {f36 : Addr} {oc36 : Value} {od36 : Option Addr} {an36 : Option Addr} {sl36 : Array (Option Value)} {kV36 : Value} {dc36 : Value} {pm36 : Value} {cd36 : Value} {ct36 : Value} {f37 : Addr} {oc37 : Value} {od37 : Option Addr} {an37 : Option Addr} {sl37 : Array (Option Value)} {kV37 : Value} {dc37 : Value} {pm37 : Value} {cd37 : Value} {ct37 : Value} {f38 : Addr} {oc38 : Value} {od38 : Option Addr} {an38 : Option Addr} {sl38 : Array (Option Value)} {kV38 : Value} {dc38 : Value} {pm38 : Value} {cd38 : Value} {ct38 : Value} {f39 : Addr} {oc39 : Value} {od39 : Option Addr} {an39 : Option Addr} {sl39 : Array (Option Value)} {kV39 : Value} {dc39 : Value} {pm39 : Value} {cd39 : Value} {ct39 : Value} {f40 : Addr} {oc40 : Value} {od40 : Option Addr} {an40 : Option Addr} {sl40 : Array (Option Value)} {kV40 : Value} {dc40 : Value} {pm40 : Value} {cd40 : Value} {ct40 : Value} {f41 : Addr} {oc41 : Value} {od41 : Option Addr} {an41 : Option Addr} {sl41 : Array (Option Value)} {kV41 : Value} {dc41 : Value} {pm41 : Value} {cd41 : Value} {ct41 : Value} {f42 : Addr} {oc42 : Value} {od42 : Option Addr} {an42 : Option Addr} {sl42 : Array (Option Value)} {kV42 : Value} {dc42 : Value} {pm42 : Value} {cd42 : Value} {ct42 : Value} {f43 : Addr} {oc43 : Value} {od43 : Option Addr} {an43 : Option Addr} {sl43 : Array (Option Value)} {kV43 : Value} {dc43 : Value} {pm43 : Value} {cd43 : Value} {ct43 : Value} {f44 : Addr} {oc44 : Value} {od44 : Option Addr} {an44 : Option Addr} {sl44 : Array (Option Value)} {kV44 : Value} {dc44 : Value} {pm44 : Value} {cd44 : Value} {ct44 : Value} {f45 : Addr} {oc45 : Value} {od45 : Option Addr} {an45 : Option Addr} {sl45 : Array (Option Value)} {kV45 : Value} {dc45 : Value} {pm45 : Value} {cd45 : Value} {ct45 : Value} {f46 : Addr} {oc46 : Value} {od46 : Option Addr} {an46 : Option Addr} {sl46 : Array (Option Value)} {kV46 : Value} {dc46 : Value} {pm46 : Value} {cd46 : Value} {ct46 : Value} {f47 : Addr} {oc47 : Value} {od47 : Option Addr} {an47 : Option Addr} {sl47 : Array (Option Value)} {kV47 : Value} {dc47 : Value} {pm47 : Value} {cd47 : Value} {ct47 : Value}
    (h1 : PySem.W.nsIn K mainGlobals "isinstance" = some none)
    (h2 : PySem.W.nsIn K mainGlobals "str" = some none)
    (h3 : PySem.W.nsIn K mainGlobals "len" = some none)
    (h4 : PySem.W.nsIn K mainGlobals "all" = some none)
    (h5 : PySem.W.nsIn K mainGlobals "bool" = some none)
    (h6 : PySem.W.nsIn K mainGlobals "int" = some none)
    (h7 : PySem.W.nsIn K mainGlobals "list" = some none)
    (h8 : PySem.W.nsIn K mainGlobals "sum" = some none)
    (h9 : PySem.W.nsIn K mainGlobals "max" = some none)
    (h10 : PySem.W.nsIn K mainGlobals "sorted" = some none)
    (h11 : PySem.W.nsIn K mainGlobals "set" = some none)
    (h12 : PySem.W.nsIn K mainGlobals "NotImplemented" = some none)
    (h13 : PySem.W.nsIn K mainGlobals "abs" = some none)
    (h14 : PySem.W.nsIn K mainGlobals "tuple" = some none)
    (h15 : PySem.W.nsIn K mainGlobals "zip" = some none)
    (h16 : PySem.W.nsIn K mainGlobals "dict" = some none)
    (h17 : PySem.W.nsIn K mainGlobals "min" = some none)
    (h18 : PySem.W.nsIn K mainGlobals "range" = some none)
    (h19 : PySem.W.nsIn K mainGlobals "ValueError" = some none)
    (h20 : PySem.W.nsIn K mainGlobals "LETTERS" = some (some (.str "abcdefghijklmnopqrstuvwxyz" t19)))
    (h21 : PySem.W.nsIn K mainGlobals "MOST_LETTERS" = some (some (.int 6 t20)))
    (h22 : PySem.W.nsIn K mainGlobals "MOST_DEPTH" = some (some (.int 20 t21)))
    (h23 : PySem.W.nsIn K mainGlobals "Circle" = some (some (.ref z_Circle)))
    (h24 : PySem.W.plainGet K z_Circle Str.empty = true)
    (h25 : PySem.W.hasDictIn K z_Circle = true)
    (h26 : PySem.W.plainOver K z_Circle = true)
    (h27 : PySem.W.findIn K (.ref z_Circle) "__setattr__" = some (some (.builtin "object.__setattr__")))
    (h28 : PySem.W.findIn K (.ref z_Circle) "__class__" = some (some (.builtin "object.__class__")))
    (h29 : PySem.W.specialIn K (.builtin "object.__class__") "__get__" = some (some (.builtin "getset_descriptor.__get__")))
    (h30 : PySem.W.takesIn K (.builtin "object.__class__") = some true)
    (h31 : PySem.W.mroIn K z_Circle (.type "object") = some true)
    (h32 : PySem.W.subIn K (.ref z_Circle) (.type "str") = some false)
    (h33 : PySem.W.subIn K (.ref z_Circle) (.type "int") = some false)
    (h34 : PySem.W.subIn K (.ref z_Circle) (.type "bool") = some false)
    (h35 : PySem.W.subIn K (.ref z_Circle) (.type "list") = some false)
    (h36 : PySem.W.subIn K (.ref z_Circle) (.type "tuple") = some false)
    (h37 : PySem.W.subIn K (.ref z_Circle) (.type "dict") = some false)
    (h38 : PySem.W.selfFirst K z_Circle = true)
    (h39 : PySem.W.findIn K (.ref z_Circle) "kind" = some none)
    (h40 : PySem.W.findIn K (.ref z_Circle) "name" = some none)
    (h41 : PySem.W.findIn K (.ref z_Circle) "_parts" = some none)
    (h42 : PySem.W.findIn K (.ref z_Circle) "size" = some none)
    (h43 : PySem.W.findIn K (.ref z_Circle) "depth" = some none)
    (h44 : PySem.W.findIn K (.ref z_Circle) "_text" = some none)
    (h45 : PySem.W.readsIn K z_Circle (.type "type") = true)
    (h46 : PySem.W.specialIn K (.ref z_Circle) "__getattribute__" = some (some (.builtin "type.__getattribute__")))
    (h47 : PySem.W.findCls K (.ref z_Circle) (.type "type") "LIMIT" = some (.val (.int 60 t32)))
    (h48 : PySem.W.makesIn K z_Circle = true)
    (h49 : PySem.W.keepIn K (.ref z_Circle) = true)
    (h50 : PySem.W.findIn K (.ref z_Circle) "__init__" = some (some (.ref f33)))
    (h51 : PySem.W.isFn K (.ref f33) = true)
    (h52 : K.lookup f33 = some ⟨oc33, od33, .func (PySem.W.fnOf "__init__" "Circle.__init__" (defArgs s_Circle___init) (defBody s_Circle___init) (defScope s_Circle___init) .none kV33 dc33 pm33 an33 cd33 ct33), sl33⟩)
    (h53 : PySem.W.codeIn K cd33 "Circle.__init__" = true)
    (h54 : PySem.W.keepIn K (.ref f33) = true)
    (h55 : PySem.W.nsIn K mainGlobals "is_name" = some (some (.ref f34)))
    (h56 : K.lookup f34 = some ⟨oc34, od34, .func (PySem.W.fnOf "is_name" "is_name" (defArgs s_is_name) (defBody s_is_name) (defScope s_is_name) .none kV34 dc34 pm34 an34 cd34 ct34), sl34⟩)
    (h57 : PySem.W.codeIn K cd34 "is_name" = true)
    (h58 : PySem.W.keepIn K (.ref f34) = true)
    (h59 : PySem.W.nsIn K mainGlobals "is_number" = some (some (.ref f35)))
    (h60 : K.lookup f35 = some ⟨oc35, od35, .func (PySem.W.fnOf "is_number" "is_number" (defArgs s_is_number) (defBody s_is_number) (defScope s_is_number) .none kV35 dc35 pm35 an35 cd35 ct35), sl35⟩)
    (h61 : PySem.W.codeIn K cd35 "is_number" = true)
    (h62 : PySem.W.keepIn K (.ref f35) = true)
    (h63 : PySem.W.nsIn K mainGlobals "eye" = some (some (.ref f36)))
    (h64 : K.lookup f36 = some ⟨oc36, od36, .func (PySem.W.fnOf "eye" "eye" (defArgs s_eye) (defBody s_eye) (defScope s_eye) .none kV36 dc36 pm36 an36 cd36 ct36), sl36⟩)
    (h65 : PySem.W.codeIn K cd36 "eye" = true)
    (h66 : PySem.W.keepIn K (.ref f36) = true)
    (h67 : PySem.W.nsIn K mainGlobals "_law_bag" = some (some (.ref f37)))
    (h68 : K.lookup f37 = some ⟨oc37, od37, .func (PySem.W.fnOf "_law_bag" "_law_bag" (defArgs s_law_bag) (defBody s_law_bag) (defScope s_law_bag) .none kV37 dc37 pm37 an37 cd37 ct37), sl37⟩)
    (h69 : PySem.W.codeIn K cd37 "_law_bag" = true)
    (h70 : PySem.W.keepIn K (.ref f37) = true)
    (h71 : PySem.W.nsIn K mainGlobals "_law_draw" = some (some (.ref f38)))
    (h72 : K.lookup f38 = some ⟨oc38, od38, .func (PySem.W.fnOf "_law_draw" "_law_draw" (defArgs s_law_draw) (defBody s_law_draw) (defScope s_law_draw) .none kV38 dc38 pm38 an38 cd38 ct38), sl38⟩)
    (h73 : PySem.W.codeIn K cd38 "_law_draw" = true)
    (h74 : PySem.W.keepIn K (.ref f38) = true)
    (h75 : PySem.W.nsIn K mainGlobals "_law_of" = some (some (.ref f39)))
    (h76 : K.lookup f39 = some ⟨oc39, od39, .func (PySem.W.fnOf "_law_of" "_law_of" (defArgs s_law_of) (defBody s_law_of) (defScope s_law_of) .none kV39 dc39 pm39 an39 cd39 ct39), sl39⟩)
    (h77 : PySem.W.codeIn K cd39 "_law_of" = true)
    (h78 : PySem.W.keepIn K (.ref f39) = true)
    (h79 : PySem.W.nsIn K mainGlobals "_law_same" = some (some (.ref f40)))
    (h80 : K.lookup f40 = some ⟨oc40, od40, .func (PySem.W.fnOf "_law_same" "_law_same" (defArgs s_law_same) (defBody s_law_same) (defScope s_law_same) .none kV40 dc40 pm40 an40 cd40 ct40), sl40⟩)
    (h81 : PySem.W.codeIn K cd40 "_law_same" = true)
    (h82 : PySem.W.keepIn K (.ref f40) = true)
    (h83 : PySem.W.nsIn K mainGlobals "_law_is_title" = some (some (.ref f41)))
    (h84 : K.lookup f41 = some ⟨oc41, od41, .func (PySem.W.fnOf "_law_is_title" "_law_is_title" (defArgs s_law_is_title) (defBody s_law_is_title) (defScope s_law_is_title) .none kV41 dc41 pm41 an41 cd41 ct41), sl41⟩)
    (h85 : PySem.W.codeIn K cd41 "_law_is_title" = true)
    (h86 : PySem.W.keepIn K (.ref f41) = true)
    (h87 : PySem.W.nsIn K mainGlobals "_law_cut_to" = some (some (.ref f42)))
    (h88 : K.lookup f42 = some ⟨oc42, od42, .func (PySem.W.fnOf "_law_cut_to" "_law_cut_to" (defArgs s_law_cut_to) (defBody s_law_cut_to) (defScope s_law_cut_to) .none kV42 dc42 pm42 an42 cd42 ct42), sl42⟩)
    (h89 : PySem.W.codeIn K cd42 "_law_cut_to" = true)
    (h90 : PySem.W.keepIn K (.ref f42) = true)
    (h91 : PySem.W.nsIn K mainGlobals "_law_end" = some (some (.ref f43)))
    (h92 : K.lookup f43 = some ⟨oc43, od43, .func (PySem.W.fnOf "_law_end" "_law_end" (defArgs s_law_end) (defBody s_law_end) (defScope s_law_end) .none kV43 dc43 pm43 an43 cd43 ct43), sl43⟩)
    (h93 : PySem.W.codeIn K cd43 "_law_end" = true)
    (h94 : PySem.W.keepIn K (.ref f43) = true)
    (h95 : PySem.W.nsIn K mainGlobals "_law_word" = some (some (.ref f44)))
    (h96 : K.lookup f44 = some ⟨oc44, od44, .func (PySem.W.fnOf "_law_word" "_law_word" (defArgs s_law_word) (defBody s_law_word) (defScope s_law_word) .none kV44 dc44 pm44 an44 cd44 ct44), sl44⟩)
    (h97 : PySem.W.codeIn K cd44 "_law_word" = true)
    (h98 : PySem.W.keepIn K (.ref f44) = true)
    (h99 : PySem.W.nsIn K mainGlobals "_law_other" = some (some (.ref f45)))
    (h100 : K.lookup f45 = some ⟨oc45, od45, .func (PySem.W.fnOf "_law_other" "_law_other" (defArgs s_law_other) (defBody s_law_other) (defScope s_law_other) .none kV45 dc45 pm45 an45 cd45 ct45), sl45⟩)
    (h101 : PySem.W.codeIn K cd45 "_law_other" = true)
    (h102 : PySem.W.keepIn K (.ref f45) = true)
    (h103 : PySem.W.nsIn K mainGlobals "_law_value" = some (some (.ref f46)))
    (h104 : K.lookup f46 = some ⟨oc46, od46, .func (PySem.W.fnOf "_law_value" "_law_value" (defArgs s_law_value) (defBody s_law_value) (defScope s_law_value) .none kV46 dc46 pm46 an46 cd46 ct46), sl46⟩)
    (h105 : PySem.W.codeIn K cd46 "_law_value" = true)
    (h106 : PySem.W.keepIn K (.ref f46) = true)
    (h107 : PySem.W.nsIn K mainGlobals "law" = some (some (.ref f47)))
    (h108 : K.lookup f47 = some ⟨oc47, od47, .func (PySem.W.fnOf "law" "law" (defArgs s_law) (defBody s_law) (defScope s_law) .none kV47 dc47 pm47 an47 cd47 ct47), sl47⟩)
    (h109 : PySem.W.codeIn K cd47 "law" = true)
    (h110 : PySem.W.keepIn K (.ref f47) = true) :
    ∃ A : Adr, Txt K mg A := ⟨⟨0, z_Circle⟩, {n_isinstance := PySem.W.mg_none_of X G h1, n_str := PySem.W.mg_none_of X G h2, n_len := PySem.W.mg_none_of X G h3, n_all := PySem.W.mg_none_of X G h4, n_bool := PySem.W.mg_none_of X G h5, n_int := PySem.W.mg_none_of X G h6, n_list := PySem.W.mg_none_of X G h7, n_sum := PySem.W.mg_none_of X G h8, n_max := PySem.W.mg_none_of X G h9, n_sorted := PySem.W.mg_none_of X G h10, n_set := PySem.W.mg_none_of X G h11, n_NotImplemented := PySem.W.mg_none_of X G h12, n_abs := PySem.W.mg_none_of X G h13, n_tuple := PySem.W.mg_none_of X G h14, n_zip := PySem.W.mg_none_of X G h15, n_dict := PySem.W.mg_none_of X G h16, n_min := PySem.W.mg_none_of X G h17, n_range := PySem.W.mg_none_of X G h18, n_ValueError := PySem.W.mg_none_of X G h19, m_LETTERS := ⟨_, PySem.W.mg_of X G h20⟩, m_MOST_LETTERS := ⟨_, PySem.W.mg_of X G h21⟩, m_MOST_DEPTH := ⟨_, PySem.W.mg_of X G h22⟩, m_Circle := PySem.W.mg_of X G h23, c_Circle := ⟨h24, h25, h26, h27⟩, y_Circle := ⟨h28, h29, h30, h31, kit_own h32 (by decide +kernel), kit_own h33 (by decide +kernel), kit_own h34 (by decide +kernel), kit_own h35 (by decide +kernel), kit_own h36 (by decide +kernel), kit_own h37 (by decide +kernel)⟩, s_Circle := h38, a_Circle_kind := h39, a_Circle_name := h40, a_Circle_parts := h41, a_Circle_size := h42, a_Circle_depth := h43, a_Circle_text := h44, k_Circle_LIMIT := ⟨_, ⟨h45, h46⟩, ⟨h47, ⟨_, rfl⟩⟩⟩, i_Circle := initAt_mk h48 h49 h50 h51 h52 h53 h54 (fun _ _ _ _ _ _ us hl => match us, hl with | [_, _, _, _], _ => rfl), f_is_name := fnAt_mk X G h55 h56 h57 h58 (fun _ _ _ _ _ _ us hl => match us, hl with | [_], _ => rfl), f_is_number := fnAt_mk X G h59 h60 h61 h62 (fun _ _ _ _ _ _ us hl => match us, hl with | [_, _, _], _ => rfl), f_eye := fnAt_mk X G h63 h64 h65 h66 (fun _ _ _ _ _ _ us hl => match us, hl with | [_], _ => rfl), f_law_bag := fnAt_mk X G h67 h68 h69 h70 (fun _ _ _ _ _ _ us hl => match us, hl with | [_], _ => rfl), f_law_draw := fnAt_mk X G h71 h72 h73 h74 (fun _ _ _ _ _ _ us hl => match us, hl with | [_, _], _ => rfl), f_law_of := fnAt_mk X G h75 h76 h77 h78 (fun _ _ _ _ _ _ us hl => match us, hl with | [_, _], _ => rfl), f_law_same := fnAt_mk X G h79 h80 h81 h82 (fun _ _ _ _ _ _ us hl => match us, hl with | [_, _], _ => rfl), f_law_is_title := fnAt_mk X G h83 h84 h85 h86 (fun _ _ _ _ _ _ us hl => match us, hl with | [_], _ => rfl), f_law_cut_to := fnAt_mk X G h87 h88 h89 h90 (fun _ _ _ _ _ _ us hl => match us, hl with | [_], _ => rfl), f_law_end := fnAt_mk X G h91 h92 h93 h94 (fun _ _ _ _ _ _ us hl => match us, hl with | [_], _ => rfl), f_law_word := fnAt_mk X G h95 h96 h97 h98 (fun _ _ _ _ _ _ us hl => match us, hl with | [_], _ => rfl), f_law_other := fnAt_mk X G h99 h100 h101 h102 (fun _ _ _ _ _ _ us hl => match us, hl with | [_], _ => rfl), f_law_value := fnAt_mk X G h103 h104 h105 h106 (fun _ _ _ _ _ _ us hl => match us, hl with | [_, _, _], _ => rfl), f_law := fnAt_mk X G h107 h108 h109 h110 (fun _ _ _ _ _ _ us hl => match us, hl with | [_], _ => rfl) }⟩
theorem fin {l : PySem.W.OpenLaw} {w : World} {K : PySem.W.Frag} {mg : Str → Option Value} {fa : Addr} (T : ∃ A, Txt K mg A) (hmg : mg "law" = some (.ref fa)) :
    ∃ fd : FuncData, (∀ (s : Shared) (v : Value), BindsTo s fd ⟨[v], []⟩ [("_law_script", v)]) ∧ ∀ base : Heap, K.In base → base.Ns mainGlobals mg → FnOk l.prog w K mg base CX0 6 fa fd ["_law_script"] (spLaw K) := by
  obtain ⟨A, T⟩ := T
  obtain ⟨f, fd, F, hb, hm⟩ := T.f_law
  cases hmg.symm.trans hm
  refine ⟨fd, fun s v => ?_, fun base _ _ => ?_⟩
  · obtain ⟨oc, od, kV, doc, pm, an, cdv, ct, osl, rfl, lk, hcd⟩ := F.ex
    exact .of_eq rfl
  · obtain ⟨f2, fd2, hm2, F2, _, R⟩ := ok_law (P := l.prog) (w := w) (base := base) T
    cases hm.symm.trans hm2
    obtain ⟨oc, od, kV, doc, pm, an, cdv, ct, osl, rfl, lk, hcd⟩ := F.ex
    obtain ⟨oc2, od2, kV2, doc2, pm2, an2, cdv2, ct2, osl2, rfl, lk2, hcd2⟩ := F2.ex
    cases lk.symm.trans lk2
    exact R
end Eyes
open PySem PySem.W PyProof.Rows
set_option maxHeartbeats 0 in
theorem PySem.Challenge.cw_pooledeyes_k01_names_and_numbers_judged_holds : PySem.Challenge.rw_pooledeyes_k01_names_and_numbers_judged.Holds := by
  w_on; o_law; k_head; (case hw => w_witness2)
  k_fill
  refine L2.walk_of (l := PySem.Challenge.rw_pooledeyes_k01_names_and_numbers_judged) (n := 63) (k := 6) (x := "_law_script") (CX := fun _ => L2.CX0) (sp := fun w => Eyes.spLaw _) rfl (by decide) rfl ⟨rfl, by decide, by decide⟩ (fun w h Y => PySem.W.kIn_of Y) ?F (fun _ _ a ns hl _ hS => ⟨a, ns, rfl, hS, hl, fun _ => rfl⟩) (fun _ _ _ _ _ h => h)
  case F =>
    intro w mg fa h KX G hmg
    refine' Eyes.fin (Eyes.txt_mk KX G ?h1 ?h2 ?h3 ?h4 ?h5 ?h6 ?h7 ?h8 ?h9 ?h10 ?h11 ?h12 ?h13 ?h14 ?h15 ?h16 ?h17 ?h18 ?h19 ?h20 ?h21 ?h22 ?h23 ?h24 ?h25 ?h26 ?h27 ?h28 ?h29 ?h30 ?h31 ?h32 ?h33 ?h34 ?h35 ?h36 ?h37 ?h38 ?h39 ?h40 ?h41 ?h42 ?h43 ?h44 ?h45 ?h46 ?h47 ?h48 ?h49 ?h50 ?h51 ?h52 ?h53 ?h54 ?h55 ?h56 ?h57 ?h58 ?h59 ?h60 ?h61 ?h62 ?h63 ?h64 ?h65 ?h66 ?h67 ?h68 ?h69 ?h70 ?h71 ?h72 ?h73 ?h74 ?h75 ?h76 ?h77 ?h78 ?h79 ?h80 ?h81 ?h82 ?h83 ?h84 ?h85 ?h86 ?h87 ?h88 ?h89 ?h90 ?h91 ?h92 ?h93 ?h94 ?h95 ?h96 ?h97 ?h98 ?h99 ?h100 ?h101 ?h102 ?h103 ?h104 ?h105 ?h106 ?h107 ?h108 ?h109 ?h110) hmg
    (case h1 => k_is); (case h2 => k_is); (case h3 => k_is); (case h4 => k_is); (case h5 => k_is); (case h6 => k_is)
    (case h7 => k_is); (case h8 => k_is); (case h9 => k_is); (case h10 => k_is); (case h11 => k_is); (case h12 => k_is)
    (case h13 => k_is); (case h14 => k_is); (case h15 => k_is); (case h16 => k_is); (case h17 => k_is); (case h18 => k_is)
    (case h19 => k_is); (case h20 => k_is); (case h21 => k_is); (case h22 => k_is); (case h23 => k_is); (case h24 => k_is)
    (case h25 => k_is); (case h26 => k_is); (case h27 => k_is); (case h28 => k_is); (case h29 => k_is); (case h30 => k_is)
    (case h31 => k_is); (case h32 => k_is); (case h33 => k_is); (case h34 => k_is); (case h35 => k_is); (case h36 => k_is)
    (case h37 => k_is); (case h38 => k_is); (case h39 => k_is); (case h40 => k_is); (case h41 => k_is); (case h42 => k_is)
    (case h43 => k_is); (case h44 => k_is); (case h45 => k_is); (case h46 => k_is); (case h47 => k_is); (case h48 => k_is)
    (case h49 => k_is); (case h50 => k_is); (case h51 => k_is); (case h52 => k_is); (case h53 => k_is); (case h54 => k_is)
    (case h55 => k_is); (case h56 => k_is); (case h57 => k_is); (case h58 => k_is); (case h59 => k_is); (case h60 => k_is)
    (case h61 => k_is); (case h62 => k_is); (case h63 => k_is); (case h64 => k_is); (case h65 => k_is); (case h66 => k_is)
    (case h67 => k_is); (case h68 => k_is); (case h69 => k_is); (case h70 => k_is); (case h71 => k_is); (case h72 => k_is)
    (case h73 => k_is); (case h74 => k_is); (case h75 => k_is); (case h76 => k_is); (case h77 => k_is); (case h78 => k_is)
    (case h79 => k_is); (case h80 => k_is); (case h81 => k_is); (case h82 => k_is); (case h83 => k_is); (case h84 => k_is)
    (case h85 => k_is); (case h86 => k_is); (case h87 => k_is); (case h88 => k_is); (case h89 => k_is); (case h90 => k_is)
    (case h91 => k_is); (case h92 => k_is); (case h93 => k_is); (case h94 => k_is); (case h95 => k_is); (case h96 => k_is)
    (case h97 => k_is); (case h98 => k_is); (case h99 => k_is); (case h100 => k_is); (case h101 => k_is); (case h102 => k_is)
    (case h103 => k_is); (case h104 => k_is); (case h105 => k_is); (case h106 => k_is); (case h107 => k_is); (case h108 => k_is)
    (case h109 => k_is); (case h110 => k_is)

