import PyProof.Rows.All
import Wide.All
import OpenK.AllK
import Wide.FinOn
import HandS.ForMost
import HandS.IsInst
import HandS.Style
import HandS.Evl
import HandS.Defaults
import HandS.Walk
import HandS.Zip
import HandS.ClsMeth
import HandS.Deep
import HandS.ListEq
import HandS.DeepEq
import HandS.RaiseMore
import KE.KFmtOwn
import KE.KDictList
import HandS.FStr
import PyProof.Rows.StrMeet
import HandS.Exc
import HandS.TryMany
import HandS.ExcField
import HandS.ExcInit
import HandS.ExcOwn
import HandS.WordsExc
import HandS.Comp
import KE.KAsSuite
import HandS.More
import HandS.Conv
import HandS.Lambda
import HandS.EndTab
import HandS.Star
import KE.GoesEnum
import HandS.Set
import HandS.Strs
import PyProof.Rows.SetFrom
import HandS.Small
import PySem.Challenge.RW_pooledeyes_k05_whole_wrong_circle_texts
set_option Elab.async false
set_option linter.all false
set_option maxRecDepth 100000
set_option maxHeartbeats 4000000
/-! My own short words: a def of the text with its promise, calls of it. -/
namespace Eyes
open PySem PySem.Spec PyProof.Rows L2
def FnAt (K : PySem.W.Frag) (mg : Str → Option Value) (x : Str) (st : Stmt) (ps : List Str) : Prop :=
  ∃ (f : Addr) (fd : FuncData), Fun K x x st f fd ∧ Binds K fd ps [] ∧ mg x = some (.ref f)
def Pr (P : Program) (w : World) (K : PySem.W.Frag) (mg : Str → Option Value) (base : Heap) (x : Str) (st : Stmt) (ps : List Str) (k : Nat) (sp : Sp) : Prop :=
  ∃ (f : Addr) (fd : FuncData), mg x = some (.ref f) ∧ Fun K x x st f fd ∧ Binds K fd ps [] ∧ FnOk P w K mg base CX0 k f fd ps sp
def InitAt (K : PySem.W.Frag) (C : Addr) (qual : Str) (st : Stmt) (ps : List Str) : Prop :=
  ∃ (f : Addr) (fd : FuncData), Mk K C f ∧ Fun K "__init__" qual st f fd ∧ Binds K fd ps []
def PrI (P : Program) (w : World) (K : PySem.W.Frag) (mg : Str → Option Value) (base : Heap) (C : Addr) (ps : List Str) (k : Nat) (sp : Sp) : Prop :=
  ∃ (f : Addr) (fd : FuncData), Mk K C f ∧ Binds K fd ps [] ∧ FnOk P w K mg base CX0 k f fd ps sp
def MethAt (K : PySem.W.Frag) (C : Addr) (m qual : Str) (st : Stmt) (ps : List Str) : Prop :=
  ∃ (f : Addr) (fd : FuncData), Meth K C m f ∧ Fun K m qual st f fd ∧ Binds K fd ps []
def PrM (P : Program) (w : World) (K : PySem.W.Frag) (mg : Str → Option Value) (base : Heap) (C : Addr) (m : Str) (ps : List Str) (k : Nat) (sp : Sp) : Prop :=
  ∃ (f : Addr) (fd : FuncData), Meth K C m f ∧ Binds K fd ps [] ∧ FnOk P w K mg base CX0 k f fd ps sp
theorem kit_own {K : PySem.W.Frag} {C : Addr} {T : String} (h : PySem.W.subIn K (.ref C) (.type T) = some false) (m : PySem.W.kitMeta T = true) : PySem.W.kitOne K (.ref C) (.type T) = some false := by
  unfold PySem.W.kitOne
  have e : (Value.ref C == Value.type T) = false := rfl
  rw [e]
  show (if PySem.W.kitMeta T = true then PySem.W.subIn K (.ref C) (.type T) else none) = some false
  rw [if_pos m]
  exact h
structure ClsY (K : PySem.W.Frag) (C : Addr) : Prop where
  ty1 : PySem.W.findIn K (.ref C) "__class__" = some (some (.builtin "object.__class__"))
  ty2 : PySem.W.specialIn K (.builtin "object.__class__") "__get__" = some (some (.builtin "getset_descriptor.__get__"))
  ty3 : PySem.W.takesIn K (.builtin "object.__class__") = some true
  ty4 : PySem.W.mroIn K C (.type "object") = some true
  k_str : PySem.W.kitOne K (.ref C) (.type "str") = some false
  k_int : PySem.W.kitOne K (.ref C) (.type "int") = some false
  k_bool : PySem.W.kitOne K (.ref C) (.type "bool") = some false
  k_list : PySem.W.kitOne K (.ref C) (.type "list") = some false
  k_tuple : PySem.W.kitOne K (.ref C) (.type "tuple") = some false
  k_dict : PySem.W.kitOne K (.ref C) (.type "dict") = some false
section
variable {P : Program} {w : World} {K : PySem.W.Frag} {mg : Str → Option Value} {base : Heap}
abbrev BindH (x qual : Str) (st : Stmt) (ps : List Str) : Prop := ∀ (kV doc pm : Value) (an : Option Addr) (cdv ct : Value) (us : List Value), us.length = ps.length → bindArgs (PySem.W.fnOf x qual (defArgs st) (defBody st) (defScope st) .none kV doc pm an cdv ct) ⟨us, []⟩ = pure (ps.zip us)
theorem fnAt_mk {h : Heap} (X : K.In h) (G : h.Ns mainGlobals mg) {x : Str} {st : Stmt} {ps : List Str} {f : Addr} {oc : Value} {od an : Option Addr} {osl : Array (Option Value)} {kV doc pm cdv ct : Value} (a : PySem.W.nsIn K mainGlobals x = some (some (.ref f)))
    (l : K.lookup f = some ⟨oc, od, .func (PySem.W.fnOf x x (defArgs st) (defBody st) (defScope st) .none kV doc pm an cdv ct), osl⟩) (c : PySem.W.codeIn K cdv x = true) (k : PySem.W.keepIn K (.ref f) = true) (hb : BindH x x st ps) : FnAt K mg x st ps :=
  ⟨f, _, fun_mk l c k, (fun_mk l c k).binds hb, PySem.W.mg_of X G a⟩
theorem initAt_mk {C : Addr} {qual : Str} {st : Stmt} {ps : List Str} {f : Addr} {oc : Value} {od an : Option Addr} {osl : Array (Option Value)} {kV doc pm cdv ct : Value} (mk : PySem.W.makesIn K C = true) (kc : PySem.W.keepIn K (.ref C) = true)
    (a : PySem.W.findIn K (.ref C) "__init__" = some (some (.ref f))) (i : PySem.W.isFn K (.ref f) = true) (l : K.lookup f = some ⟨oc, od, .func (PySem.W.fnOf "__init__" qual (defArgs st) (defBody st) (defScope st) .none kV doc pm an cdv ct), osl⟩)
    (c : PySem.W.codeIn K cdv qual = true) (k : PySem.W.keepIn K (.ref f) = true) (hb : BindH "__init__" qual st ps) : InitAt K C qual st ps :=
  ⟨f, _, ⟨mk, a, i, kc⟩, fun_mk l c k, (fun_mk l c k).binds hb⟩
theorem methAt_mk {C : Addr} {m qual : Str} {st : Stmt} {ps : List Str} {f : Addr} {oc : Value} {od an : Option Addr} {osl : Array (Option Value)} {kV doc pm cdv ct : Value}
    (a : PySem.W.findIn K (.ref C) m = some (some (.ref f))) (i : PySem.W.isFn K (.ref f) = true) (l : K.lookup f = some ⟨oc, od, .func (PySem.W.fnOf m qual (defArgs st) (defBody st) (defScope st) .none kV doc pm an cdv ct), osl⟩)
    (c : PySem.W.codeIn K cdv qual = true) (k : PySem.W.keepIn K (.ref f) = true) (hb : BindH m qual st ps) : MethAt K C m qual st ps :=
  ⟨f, _, ⟨a, i, k⟩, fun_mk l c k, (fun_mk l c k).binds hb⟩
theorem pr_mk {x : Str} {st : Stmt} {N ps : List Str} {k : Nat} {sp : Sp} (A : FnAt K mg x st ps) (S : FnScope N ps (defScope st)) (len : ∀ vs H Q E, sp vs H Q E → vs.length = ps.length)
    (hbody : ∀ (f : Addr) (cdv : Value) (A : Around) (outer : List Env) (s : Shared) (H : Hp) (vs : List V) (Q : VK) (E : XK), Room k (A.deeper (envOfC x (defScope st) s.heap.objs.size f cdv)) → sp vs H Q E →
      ∃ t, PSs (cxOf CX0 P w K mg base N x (defScope st) f cdv A outer s H E).nox (defBody st) t ∧ t { nx := fun _ H' => Q .non H', rt := Q } (start N vs) H) : Pr P w K mg base x st ps (k + 1) sp := by
  obtain ⟨f, fd, F, hb, hm⟩ := A
  exact ⟨f, fd, hm, F, hb, F.ok S len fun cdv A outer s H vs Q E hr h => hbody f cdv A outer s H vs Q E hr h⟩
theorem pri_mk {C : Addr} {qual : Str} {st : Stmt} {N ps : List Str} {k : Nat} {sp : Sp} (A : InitAt K C qual st ps) (S : FnScope N ps (defScope st)) (len : ∀ vs H Q E, sp vs H Q E → vs.length = ps.length)
    (hbody : ∀ (f : Addr) (cdv : Value) (A : Around) (outer : List Env) (s : Shared) (H : Hp) (vs : List V) (Q : VK) (E : XK), Room k (A.deeper (envOfC qual (defScope st) s.heap.objs.size f cdv)) → sp vs H Q E →
      ∃ t, PSs (cxOf CX0 P w K mg base N qual (defScope st) f cdv A outer s H E).nox (defBody st) t ∧ t { nx := fun _ H' => Q .non H', rt := Q } (start N vs) H) : PrI P w K mg base C ps (k + 1) sp := by
  obtain ⟨f, fd, hm, F, hb⟩ := A
  exact ⟨f, fd, hm, hb, F.ok S len fun cdv A outer s H vs Q E hr h => hbody f cdv A outer s H vs Q E hr h⟩
theorem prm_mk {C : Addr} {m qual : Str} {st : Stmt} {N ps : List Str} {k : Nat} {sp : Sp} (A : MethAt K C m qual st ps) (S : FnScope N ps (defScope st)) (len : ∀ vs H Q E, sp vs H Q E → vs.length = ps.length)
    (hbody : ∀ (f : Addr) (cdv : Value) (A : Around) (outer : List Env) (s : Shared) (H : Hp) (vs : List V) (Q : VK) (E : XK), Room k (A.deeper (envOfC qual (defScope st) s.heap.objs.size f cdv)) → sp vs H Q E →
      ∃ t, PSs (cxOf CX0 P w K mg base N qual (defScope st) f cdv A outer s H E).nox (defBody st) t ∧ t { nx := fun _ H' => Q .non H', rt := Q } (start N vs) H) : PrM P w K mg base C m ps (k + 1) sp := by
  obtain ⟨f, fd, hm, F, hb⟩ := A
  exact ⟨f, fd, hm, hb, F.ok S len fun cdv A outer s H vs Q E hr h => hbody f cdv A outer s H vs Q E hr h⟩
end
def pick {α : Type} (is : List Nat) (xs : List α) : List α := is.filterMap fun i => xs[i]?
theorem pick_vals {vs : List V} {us : List Value} (r : Vals vs us) : ∀ is : List Nat, Vals (pick is vs) (pick is us)
  | [] => .nil
  | i :: is => by
    unfold pick
    rw [List.filterMap_cons, List.filterMap_cons]
    cases h : vs[i]? with
    | none =>
      rw [r.none_of h]
      exact pick_vals r is
    | some v =>
      obtain ⟨u, hu, rv⟩ := r.get h
      rw [hu]
      exact .cons rv (pick_vals r is)
section
variable {X : Cx} {x : Str} {st : Stmt} {ps : List Str} {sp : Sp} {e : Expr} {es : List Expr} {kws : List Keyword} {p pos : Pos} {t tk : TA}
theorem pcall {j k : Nat} (G : Pr X.prog X.w X.K X.mg X.base x st ps j sp) (hr : Room k X.A) (ha : PA X (e :: es) t) (hj : j ≤ k := by first | decide | omega) (hg : Gl X x := by rfl)
    (hdb : (x == ("__debug__" : Str)) = false := by decide) (he : starEach (e :: es) X.env = (false, eval e X.env) :: starEach es X.env := by rfl) (hpl : (backTo pos (starEach es X.env)).any (·.1) = false := by rfl) :
    PE X (.Call (.Name x p) (e :: es) [] pos) (tCall sp [] (fun _ _ _ => False) t) := by
  obtain ⟨f, fd, hm, F0, hb, F⟩ := G
  exact pe_call F (hr.mono hj) hg hm F0.kp hb .nil (fun _ _ _ _ _ _ _ h => h.elim) ha hdb he hpl
theorem pcall0 {j k : Nat} (G : Pr X.prog X.w X.K X.mg X.base x st ps j sp) (hr : Room k X.A) (hj : j ≤ k := by first | decide | omega) (hg : Gl X x := by rfl)
    (hdb : (x == ("__debug__" : Str)) = false := by decide) :
    PE X (.Call (.Name x p) [] [] pos) (tCall sp [] (fun _ _ _ => False) tNil) := by
  obtain ⟨f, fd, hm, F0, hb, F⟩ := G
  exact pe_call0 F (hr.mono hj) hg hm F0.kp hb .nil (fun _ _ _ _ _ _ _ h => h.elim) hdb
def KwOk (x : Str) (st : Stmt) (ps : List Str) (n : Nat) (ks : List Str) (is : List Nat) : Prop :=
  ∀ (kV doc pm : Value) (an : Option Addr) (cdv ct : Value) (us ws : List Value), us.length = n → ws.length = ks.length → bindArgs (PySem.W.fnOf x x (defArgs st) (defBody st) (defScope st) .none kV doc pm an cdv ct) ⟨us, ks.zip ws⟩ = pure (ps.zip (pick is (us ++ ws)))
theorem kbn {K : PySem.W.Frag} {f : Addr} {fd : FuncData} {n : Nat} {ks : List Str} {is : List Nat} (F : Fun K x x st f fd) (h : KwOk x st ps n ks is) : KBn K fd ps n ks (fun us ws => pick is (us ++ ws)) (fun vs zs => pick is (vs ++ zs)) := by
  obtain ⟨oc, od, kV, doc, pm, an, cdv, ct, osl, rfl, lk, hcd⟩ := F.ex
  exact ⟨fun s us ws _ h1 h2 => .of_eq (h kV doc pm an cdv ct us ws h1 h2), fun r1 r2 => pick_vals (Vals.append r1 r2) is⟩
theorem pcallN {j k n : Nat} {ks : List Str} {is : List Nat} (G : Pr X.prog X.w X.K X.mg X.base x st ps j sp) (hk : KwOk x st ps n ks is) (hr : Room k X.A) (ha : PA X (e :: es) t) (hkw : PK X kws tk) (hj : j ≤ k := by first | decide | omega) (hg : Gl X x := by rfl)
    (hall : (backToKw pos (keywordEach kws X.env)).all (·.1.isSome) = true := by rfl) (hks : (backToKw pos (keywordEach kws X.env)).filterMap (·.1) = ks := by rfl)
    (hdb : (x == ("__debug__" : Str)) = false := by decide) (he : starEach (e :: es) X.env = (false, eval e X.env) :: starEach es X.env := by rfl)
    (hpl : ((backTo pos (starEach (e :: es) X.env)).any (·.1) || (backToKw pos (keywordEach kws X.env)).any (·.1.isNone)) = false := by rfl) :
    PE X (.Call (.Name x p) (e :: es) kws pos) (tCallN n ks.length sp (fun vs zs => pick is (vs ++ zs)) (fun _ _ _ => False) t tk) := by
  obtain ⟨f, fd, hm, F0, hb, F⟩ := G
  exact pe_callN F (hr.mono hj) hg hm F0.kp (kbn F0 hk) (fun _ _ _ _ _ _ _ h => h.elim) ha hkw hall hks hdb he hpl
theorem pcallN0 {j k : Nat} {ks : List Str} {is : List Nat} (G : Pr X.prog X.w X.K X.mg X.base x st ps j sp) (hk : KwOk x st ps 0 ks is) (hr : Room k X.A) (hkw : PK X kws tk) (hj : j ≤ k := by first | decide | omega) (hg : Gl X x := by rfl)
    (hall : (backToKw pos (keywordEach kws X.env)).all (·.1.isSome) = true := by rfl) (hks : (backToKw pos (keywordEach kws X.env)).filterMap (·.1) = ks := by rfl)
    (hdb : (x == ("__debug__" : Str)) = false := by decide)
    (hpl : ((backTo pos (starEach [] X.env)).any (·.1) || (backToKw pos (keywordEach kws X.env)).any (·.1.isNone)) = false := by rfl) :
    PE X (.Call (.Name x p) [] kws pos) (tCallN 0 ks.length sp (fun vs zs => pick is (vs ++ zs)) (fun _ _ _ => False) tNil tk) := by
  obtain ⟨f, fd, hm, F0, hb, F⟩ := G
  refine ⟨fun pins s σ H Q I h => ?_⟩
  refine wpAny_Call_Name_kw (ld_glob I hg hm ?_ hdb)
  refine PySem.W.callWith_KW0 (h₀ := X.base) I.ok.mod.kin F0.kp hall ?_ hpl
  refine thn (hkw.run pos pins s σ H _ I h) fun ws s2 ⟨zs, H2, I2, rz, l1, l2, q2⟩ => ⟨I2.kIn, ?_⟩
  rw [hks]
  exact run_fnN (us := []) (vs := []) F (hr.mono hj) (kbn F0 hk) (fun _ _ _ _ _ _ _ h => h.elim) I2 .nil rz rfl l2 q2
theorem pmake {C : Addr} {j k : Nat} (hm : X.mg x = some (.ref C)) (G : PrI X.prog X.w X.K X.mg X.base C ps j sp) (hr : Room k X.A) (ha : PA X (e :: es) t) (hj : j + 1 ≤ k := by first | decide | omega) (hg : Gl X x := by rfl)
    (hdb : (x == ("__debug__" : Str)) = false := by decide) (he : starEach (e :: es) X.env = (false, eval e X.env) :: starEach es X.env := by rfl) (hpl : (backTo pos (starEach es X.env)).any (·.1) = false := by rfl) :
    PE X (.Call (.Name x p) (e :: es) [] pos) (tMake C sp [] (fun _ _ _ => False) t) := by
  obtain ⟨f, fd, M, hb, F⟩ := G
  exact pe_make M F (hr.mono hj) hg hm hb .nil (fun _ _ _ _ _ _ _ h => h.elim) ha hdb he hpl
theorem pgI {i : Int} (h : ∃ t, X.mg x = some (.int i t)) (hg : Gl X x := by rfl) (hd : (x == ("__debug__" : Str)) = false := by decide) : PE X (.Name x p) (tC (.int i)) := by
  obtain ⟨t, h⟩ := h
  exact pe_glob hg h ⟨t, rfl⟩ hd
theorem pgS {z : Str} (h : ∃ t, X.mg x = some (.str z t)) (hg : Gl X x := by rfl) (hd : (x == ("__debug__" : Str)) = false := by decide) : PE X (.Name x p) (tC (.str z)) := by
  obtain ⟨t, h⟩ := h
  exact pe_glob hg h ⟨t, rfl⟩ hd
end
end Eyes

set_option Elab.async false
set_option linter.all false
set_option maxRecDepth 100000
set_option maxHeartbeats 4000000
/-! Rules of my own: operators, str() and f-strings of own instances; list(d.values()). -/
namespace Eyes
open PySem PySem.Spec PyProof.Rows L2
section
variable {X : Cx} {CX : CXT} {k : Nat} {f : Addr} {fd : FuncData} {ps : List Str} {sp : Sp} {E : XK}
theorem run_at (F : FnOk X.prog X.w X.K X.mg X.base CX k f fd ps sp) (hb : Binds X.K fd ps []) (hx : Passes CX X E) {A : Around} (hr : Room k A) (hfr : A.frames = X.A.frames) {pins : List (Addr × Obj)} {σ : L2.St} {H : Hp} {s : Shared} {vs : List V} {us : List Value} {Q : VK}
    {R : Value → Shared → Prop} (I : Inv X pins σ H s) (r : Vals vs us) (h : sp vs H Q E) (hq : ∀ v u s' H', Inv X pins σ H' s' → RelV v u → Q v H' → R u s') : wpAny (model X.prog X.w) A (call (.ref f) us) R X.xe s := by
  have e0 : Env0 X.prog X.w X.K X.mg X.base A X.stack s H := by
    have e := I.env0
    exact ⟨by rw [hfr]; exact e.frames, e.mod, e.bs, e.bsz, e.funs, e.frf, e.hok, e.bare⟩
  have hl := F.len _ _ _ _ h
  have hlu : us.length = ps.length := r.length.symm.trans hl
  refine wpAny_call (codeAny_mono (F.run A X.stack s H ⟨us, []⟩ us vs Q E hr e0 (by
    have := hb s us I.kIn (by simpa using hlu)
    simpa using this) r h) fun r s' hq' => ?_)
  cases r with
  | error e => exact hx pins σ H s e s' I hq'
  | ok fl =>
    cases fl with
    | ret w =>
      obtain ⟨z, H', I', rz, ez⟩ := I.after hq'
      exact hq z w s' H' I' rz ez
    | next => exact False.elim hq'
    | brk => exact False.elim hq'
    | cont => exact False.elim hq'
end
theorem cmpBack_of {v : V} {u : Value} {s : Shared} {Q : Value → Shared → Prop} (r : RelV v u) (q : Q u s) : PySem.W.CmpBack Q u s := by
  cases v with
  | non => cases (show u = Value.none from r); exact q
  | bl b => cases (show u = Value.bool b from r); exact q
  | int i => obtain ⟨t, rfl⟩ := r; exact q
  | str i => obtain ⟨t, rfl⟩ := r; exact q
  | byt i => obtain ⟨t, rfl⟩ := r; exact q
  | flt i => obtain ⟨t, rfl⟩ := r; exact q
  | ref a => cases (show u = Value.ref a from r); exact q
  | ty n => cases (show u = Value.type n from r); exact q
def rOwnB (C : Addr) (sp : Sp) : R2 := fun x y H Q => ∃ a b dx dy fs gs, x = .ref a ∧ y = .ref b ∧ H a = some (.ins C dx fs) ∧ H b = some (.ins C dy gs) ∧ sp [.ref a, .ref b] H Q (fun _ _ _ => False)
def rOwnStr (C : Addr) (sp : Sp) : List V → Hp → VK → Prop := fun xs H Q => ∃ a dx fs, xs = [.ref a] ∧ H a = some (.ins C dx fs) ∧ sp [.ref a] H (fun v H' => ∃ z, v = .str z ∧ Q v H') (fun _ _ _ => False)
section
variable {X : Cx} {C : Addr} {j k : Nat} {ps : List Str} {sp : Sp} {nm : Str}
theorem op_ownB {op : Operator} (hc : PySem.W.selfFirst X.K C = true) (G : PrM X.prog X.w X.K X.mg X.base C (PySem.dunder op.info.2) ps j sp) (hr : Room k X.A) (hj : j ≤ k := by first | decide | omega) : OpR X (binaryOp op) (rOwnB C sp) := by
  intro pins s σ H x y v u Q I rx ry h
  obtain ⟨f, fd, M, hb, F⟩ := G
  obtain ⟨a, b, dx, dy, fs, gs, rfl, rfl, ha, hb', q⟩ := h
  cases rx
  cases ry
  obtain ⟨mA, J, _⟩ := ins_get I.hok ha
  obtain ⟨mB, J', _⟩ := ins_get I.hok hb'
  obtain ⟨od, J, _⟩ := J.look
  obtain ⟨od', J', _⟩ := J'.look
  obtain ⟨m, hF⟩ := I.fr
  refine PySem.W.binop_K hF I.ok.mod.kin J J'.type hc M.at_ M.fn ?_
  exact run_at F hb (fun _ _ _ _ _ _ _ h => h.elim) (hr.mono hj) rfl I (vs := [.ref a, .ref b]) (.cons rfl (.cons rfl .nil)) q fun v u s' H' I' rv qv => cmpBack_of rv ⟨v, H', I', rv, qv⟩
theorem call_strOwn (G : PrM X.prog X.w X.K X.mg X.base C "__str__" ps j sp) (hr : Room k X.A) (hj : j + 2 ≤ k := by first | decide | omega) : CallR X (.type "str") (rOwnStr C sp) := by
  intro pins s σ H xs us Q I r h
  obtain ⟨f, fd, M, hb, F⟩ := G
  obtain ⟨a, dx, fs, rfl, ha, q⟩ := h
  obtain ⟨u, rfl, ru⟩ := vals1 r
  cases ru
  obtain ⟨mA, J, _⟩ := ins_get I.hok ha
  obtain ⟨od, J, _⟩ := J.look
  have hr2 : Room j X.A.in1.in1 := (hr.mono hj).in1.in1
  refine PySem.W.kso_call hr2.units0 I.kIn J M.at_ M.fn ?_
  refine run_at F hb (fun _ _ _ _ _ _ _ h => h.elim) hr2 rfl I (vs := [.ref a]) (.cons rfl .nil) q fun v u s' H' I' rv qv => ?_
  obtain ⟨z, rfl, qv⟩ := qv
  obtain ⟨t, rfl⟩ := rv
  exact ⟨.str z, H', I', ⟨t, rfl⟩, qv⟩
theorem pe_fmtOwn {e : Expr} {te : TE} {pos : Pos} (G : PrM X.prog X.w X.K X.mg X.base C "__str__" ps j sp) (hr : Room k X.A) (he : PE X e te) (hj : j ≤ k := by first | decide | omega) :
    PE X (.FormattedValue e 115 none pos) (fun σ H Q => te σ H fun x H1 => ∃ a dx fs, x = .ref a ∧ H1 a = some (.ins C dx fs) ∧ sp [.ref a] H1 (fun v H' => ∃ z, v = .str z ∧ z.length ≤ sizeLine ∧ Q v H') (fun _ _ _ => False)) := by
  refine ⟨fun pins s σ H Q I h => ?_⟩
  obtain ⟨f, fd, M, hb, F⟩ := G
  refine wpAny_FormattedValue_s (thn (he.run pins s σ H _ I h) fun v s1 hv => ?_)
  obtain ⟨x, H1, I1, r1, a, dx, fs, rfl, ha, q⟩ := hv
  cases r1
  obtain ⟨mA, J, _⟩ := ins_get I1.hok ha
  obtain ⟨od, J, _⟩ := J.look
  have hrj := hr.mono hj
  show wpAny _ _ (pyStrObj (.ref a)) _ _ _
  refine PySem.W.kfo_str hrj.units0 I1.kIn J M.at_ M.fn ?_
  refine run_at F hb (fun _ _ _ _ _ _ _ h => h.elim) hrj rfl I1 (vs := [.ref a]) (.cons rfl .nil) q fun v u s' H' I' rv qv => ?_
  obtain ⟨z, rfl, hz, qv⟩ := qv
  obtain ⟨t, rfl⟩ := rv
  exact wpAny_formatField_str ⟨.str z, H', I', ⟨t, rfl⟩, qv⟩ ⟨.str z, H', I'.tok _, ⟨_, rfl⟩, qv⟩ hz
end
section
variable {X : Cx} {C : Addr} {j k : Nat} {ps : List Str} {sp : Sp} {m : Str} {o e : Expr} {es : List Expr} {apos pos : Pos} {ta : TE} {t : TA}
theorem pmeth {pl : Sem Bool} (c : Cls X.K C) (G : PrM X.prog X.w X.K X.mg X.base C m ps j sp) (hr : Room k X.A) (he : PE X o ta) (ha : PA X (e :: es) t) (hj : j ≤ k := by first | decide | omega)
    (hst : starEach (e :: es) X.env = (false, eval e X.env) :: starEach es X.env := by rfl) (hpl : (backTo pos (starEach es X.env)).any (·.1) = false := by rfl)
    (ht : eval (.Call (.Attribute o m apos) (e :: es) [] pos) X.env = (do
      let ov ← eval o X.env
      standAt apos.atName
      let (f, first) ← holding [ov] (getMethod ov m pl)
      callWith pos f first (backTo pos (starEach (e :: es) X.env)) (backToKw pos (keywordEach [] X.env))) := by rfl) :
    PE X (.Call (.Attribute o m apos) (e :: es) [] pos) (tMeth C m sp [] (fun _ _ _ => False) ta t) := by
  obtain ⟨f, fd, M, hb, F⟩ := G
  exact pe_meth he c M F (hr.mono hj) hb .nil (fun _ _ _ _ _ _ _ h => h.elim) ha hst hpl ht
theorem pmeth0 {pl : Sem Bool} (c : Cls X.K C) (G : PrM X.prog X.w X.K X.mg X.base C m ps j sp) (hr : Room k X.A) (he : PE X o ta) (hj : j ≤ k := by first | decide | omega)
    (ht : eval (.Call (.Attribute o m apos) [] [] pos) X.env = (do
      let ov ← eval o X.env
      standAt apos.atName
      let (f, first) ← holding [ov] (getMethod ov m pl)
      callWith pos f first (backTo pos (starEach [] X.env)) (backToKw pos (keywordEach [] X.env))) := by rfl) :
    PE X (.Call (.Attribute o m apos) [] [] pos) (tMeth C m sp [] (fun _ _ _ => False) ta tNil) := by
  obtain ⟨f, fd, M, hb, F⟩ := G
  exact pe_meth0 he c M F (hr.mono hj) hb .nil (fun _ _ _ _ _ _ _ h => h.elim) ht
end
def tListVals (te : TE) : TE := fun σ H Q => te σ H fun x H1 => ∃ (d : Addr) (kvs : List (Key × V)), x = .ref d ∧ H1 d = some (.dK kvs) ∧ ∀ l, H1 l = none → Q (.ref l) (upd H1 l (.lst (kvs.map (·.2))))
section
variable {X : Cx} {e : Expr} {te : TE} {p apos cpos pos : Pos}
theorem vals_of_kv {kvs : List (Key × V)} {vs : List (Key × Value)} (kv : KV kvs vs) : Vals (kvs.map (·.2)) (vs.map (·.2)) := by
  unfold KV at kv
  induction kv with
  | nil => exact .nil
  | cons h _ ih => exact .cons h.2 ih
theorem pe_listVals (hc : X.calm = true) (he : PE X e te) (hg : Gl X "list") (hm : X.mg "list" = none) (hbase : attributeBase e "values" X.env (eval e X.env) = eval e X.env := by rfl) (hline : (apos.endLine == cpos.line) = true := by rfl)
    (hs : starEach [.Call (.Attribute e "values" apos) [] [] cpos] X.env = (false, eval (.Call (.Attribute e "values" apos) [] [] cpos) X.env) :: starEach [] X.env := by rfl) :
    PE X (.Call (.Name "list" p) [.Call (.Attribute e "values" apos) [] [] cpos] [] pos) (tListVals te) := by
  refine ⟨fun pins s σ H Q I hq => ?_⟩
  refine wpAny_Call_Name_kw (ld_blt I hg hm PyProof.Rows.boot_list ?_)
  refine PyProof.Rows.callWith_type1 ?_ hs rfl
  rw [hs]
  show wpAny _ _ (spliced ((false, eval (.Call (.Attribute e "values" apos) [] [] cpos) X.env) :: backTo pos (starEach [] X.env))) _ _ s
  refine Calls.spliced_cons ?_
  refine wpAny_Call_method (T := "dict") (id := "dict.values") hbase rfl hline F.plainAttrs_dict F.slot_dict_values F.type_dict_values (thn (he.run pins s σ H _ I hq) fun u s1 ⟨x, H1, I1, rx, d, kvs, ex, hd, q⟩ => ?_)
  subst ex
  obtain rfl : u = Value.ref d := rx
  obtain ⟨hz, hs0, vs, kv, hdo⟩ := I1.hok d _ hd
  obtain ⟨ep, hat⟩ := hdo.dictAt
  have lk : kvs.length = vs.length := Paired.length kv
  have I2 : Inv X pins σ H1 { s1 with heap := s1.heap.push { cls := .type "dict_values", data := .fields #[.ref d] } } := I1.kept (t' := s1.toks) fun b ob q => Heap.get?_push_of_some _ q
  refine ⟨hdo.typeIs, hdo.mapOf.noDict, ?_⟩
  show wpAny _ _ (callWith cpos (.builtin "dict.values") [.ref d] [] []) _ X.xe s1
  refine method_meetsIn F.slot_dict_values F.entry_dict_values rfl (PySem.evalArgs_none ⟨rfl, hdo.typeIs, F.args_dict_values_1 _, _, meets_dict_values (mixKind X.prog X.w) d hs0, ⟨vs, hdo⟩, ?_⟩)
  refine Calls.spliced_nil ?_
  refine PySem.W.kdl_call (PySem.W.kdl_values (knd := mixKind X.prog X.w) (kvs := vs) (ep := ep)) (I1.ok.hd hc) ⟨⟨_, Heap.get?_push_size _ rfl, rfl, rfl⟩, hat.push _⟩ (by omega) fun h' tk acc c hk hS hacc => ?_
  have eacc : acc.toList = vs.map (·.2) := by
    refine List.ext_getElem? fun i => ?_
    rw [Array.getElem?_toList, List.getElem?_map]
    cases h : acc[i]? with
    | none =>
      have : vs.length ≤ i := by
        rw [← hacc.1]
        exact Array.getElem?_eq_none_iff.mp h
      rw [List.getElem?_eq_none this]
      rfl
    | some v =>
      obtain ⟨k, hk⟩ := hacc.2 i v h
      rw [hk]
      rfl
  have hS0 : h'.get? (s1.heap.push { cls := .type "dict_values", data := .fields #[.ref d] }).objs.size = some { cls := .type "list", data := .seq (vs.map (·.2)).toArray c } := by
    rw [← eacc, Array.toArray_toList]
    exact hS
  refine ⟨.ref _, _, I2.laid (t' := tk) (o := .lst (kvs.map (·.2))) hk (Nat.le_refl _) ⟨by rw [List.length_map]; exact hz, _, c, vals_of_kv kv, hS0⟩, rfl, q _ (I2.hok.fresh (Nat.le_refl _))⟩
end
theorem pe_fldK {X : Cx} {K : PySem.W.Frag} {e : Expr} {ta : TE} {f : Str} {pos : Pos} (hK : X.K = K) (he : PE X e ta) (hb : attributeBase e f X.env (eval e X.env) = eval e X.env) : PE X (.Attribute e f pos) (tFld K ta f) := by
  subst hK
  exact pe_fld he hb
theorem u65 {A : Around} {k : Nat} (hr : Room k A) : A.units + 65 < cLine := by
  have := hr.un
  omega
section
variable {X : Cx} {K : PySem.W.Frag}
theorem ix_listK (hK : X.K = K) : IxR X (rIxL K) := by
  subst hK
  exact ix_list
theorem ix_tupK (hK : X.K = K) : IxR X (rIxT K) := by
  subst hK
  exact ix_tup
theorem ix_seqK (hK : X.K = K) : IxR X (rIx K) := by
  subst hK
  exact ix_seq
end
section
variable {X : Cx} {K : PySem.W.Frag}
theorem op_in_seqK (hK : X.K = K) : OpR X (compareOp .In) (rIn K false) := by
  subst hK
  exact op_in_seq
theorem op_notIn_seqK (hK : X.K = K) : OpR X (compareOp .NotIn) (rIn K true) := by
  subst hK
  exact op_notIn_seq
end
end Eyes

set_option Elab.async false
set_option linter.all false
set_option maxRecDepth 100000
set_option maxHeartbeats 4000000
/-! Circles as data: texts, sizes, depths; how they are built; how they stand in the heap. -/
namespace Eyes
open PySem PySem.Spec PyProof.Rows L2 Evl TL
inductive Ci where
  | eye (n : Str)
  | node (k : Bool) (ps : List Ci)
def sepS : Bool → Str | true => " & " | false => " | "
def kindS : Bool → Str | true => "pool" | false => "common"
def wrapL (c : Ci) (t : List Nat) : List Nat := match c with
  | .eye _ => t
  | .node _ _ => 40 :: (t ++ [41])
mutual
def Ci.tx : Ci → List Nat
  | .eye n => tl n
  | .node k ps => joinL (tl (sepS k)) (inns ps)
def inns : List Ci → List (List Nat)
  | [] => []
  | c :: r => wrapL c c.tx :: inns r
end
mutual
def Ci.size : Ci → Nat
  | .eye _ => 1
  | .node _ ps => sizes ps
def sizes : List Ci → Nat
  | [] => 0
  | c :: r => c.size + sizes r
end
mutual
def Ci.depth : Ci → Nat
  | .eye _ => 0
  | .node _ ps => 1 + depths ps
def depths : List Ci → Nat
  | [] => 0
  | c :: r => max c.depth (depths r)
end
def Ci.str (c : Ci) : Str := ⟨c.tx.toArray⟩
def Ci.kind : Ci → Str | .eye _ => "eye" | .node k _ => kindS k
def Ci.name : Ci → Str | .eye n => n | .node _ _ => ""
def Ci.parts : Ci → List Ci | .eye _ => [] | .node _ ps => ps
def Ci.isK (k : Bool) : Ci → Bool | .eye _ => false | .node j _ => j == k
theorem tl_str (c : Ci) : tl c.str = c.tx := rfl
theorem str_eye (n : Str) : (Ci.eye n).str = n := ext_tl rfl
theorem inns_map : ∀ ps : List Ci, inns ps = ps.map fun c => wrapL c c.tx
  | [] => rfl
  | c :: r => by
    show wrapL c c.tx :: inns r = _
    rw [inns_map r]
    rfl
theorem sizes_sum : ∀ ps : List Ci, (sizes ps : Int) = (ps.map fun c => (c.size : Int)).sum
  | [] => rfl
  | c :: r => by
    show ((c.size + sizes r : Nat) : Int) = _
    rw [List.map_cons, List.sum_cons, ← sizes_sum r]
    omega
theorem depths_le : ∀ {ps : List Ci} {c : Ci}, c ∈ ps → c.depth ≤ depths ps
  | d :: r, c, h => by
    show c.depth ≤ max d.depth (depths r)
    rcases List.mem_cons.mp h with rfl | h
    · exact Nat.le_max_left _ _
    · exact Nat.le_trans (depths_le h) (Nat.le_max_right _ _)
theorem depths_mem : ∀ {ps : List Ci}, ps ≠ [] → ∃ c ∈ ps, depths ps = c.depth
  | [d], _ => ⟨d, List.mem_cons_self, by show max d.depth 0 = d.depth; omega⟩
  | d :: e :: r, _ => by
    obtain ⟨c, hc, h⟩ := depths_mem (ps := e :: r) (by simp)
    show ∃ c ∈ d :: e :: r, max d.depth (depths (e :: r)) = c.depth
    rcases Nat.le_total d.depth (depths (e :: r)) with g | g
    · exact ⟨c, List.mem_cons_of_mem _ hc, by rw [Nat.max_eq_right g, h]⟩
    · exact ⟨d, List.mem_cons_self, Nat.max_eq_left g⟩
/-! ### building -/
def flat (k : Bool) : List Ci → List Ci
  | [] => []
  | c :: r => (if c.isK k = true then c.parts else [c]) ++ flat k r
def dd : List Ci → List Ci → List Ci
  | acc, [] => acc
  | acc, c :: r => if acc.any (fun d => decide (d.str = c.str)) = true then dd acc r else dd (acc ++ [c]) r
def wrapK (k : Bool) : List Ci → Ci
  | [c] => c
  | ps => .node k ps
def mkC (k : Bool) (cs : List Ci) : Ci := wrapK k (dd [] (flat k cs))
/-! ### what is well made: names of letters, two parts or more -/
def nm (n : Str) : Prop := 1 ≤ n.length ∧ n.length ≤ 6 ∧ ∀ x ∈ tl n, 97 ≤ x ∧ x ≤ 122
mutual
def Ci.ok : Ci → Prop
  | .eye n => nm n
  | .node _ ps => 2 ≤ ps.length ∧ oks ps
def oks : List Ci → Prop
  | [] => True
  | c :: r => c.ok ∧ oks r
end
theorem oks_mem : ∀ {ps : List Ci}, oks ps ↔ ∀ c ∈ ps, c.ok
  | [] => ⟨fun _ _ h => (nomatch h), fun _ => True.intro⟩
  | c :: r => by
    show c.ok ∧ oks r ↔ _
    rw [oks_mem (ps := r)]
    constructor
    · rintro ⟨h1, h2⟩ d hd
      rcases List.mem_cons.mp hd with rfl | hd
      · exact h1
      · exact h2 d hd
    · intro h
      exact ⟨h c List.mem_cons_self, fun d hd => h d (List.mem_cons_of_mem _ hd)⟩
theorem joinL_len (S : List Nat) : ∀ l : List (List Nat), (joinL S l).length + S.length * (if l = [] then 0 else 1) = (l.map List.length).sum + S.length * l.length
  | [] => rfl
  | [p] => by simp [joinL]
  | p :: q :: r => by
    have ih := joinL_len S (q :: r)
    show (p ++ (S ++ joinL S (q :: r))).length + _ = _
    rw [if_neg (by simp)] at ih ⊢
    rw [List.length_append, List.length_append, List.map_cons, List.sum_cons]
    have e : S.length * (p :: q :: r).length = S.length * (q :: r).length + S.length := by rw [List.length_cons, Nat.mul_succ]
    rw [e]
    omega
mutual
theorem Ci.tx_len : ∀ c : Ci, c.ok → c.tx.length + 7 ≤ 13 * c.size
  | .eye n, h => by
    have h : n.length ≤ 6 := h.2.1
    show (tl n).length + 7 ≤ 13 * 1
    rw [← len_tl]
    omega
  | .node k ps, h => by
    have h1 : 2 ≤ ps.length := h.1
    have h2 := inns_len ps h.2
    show (joinL (tl (sepS k)) (inns ps)).length + 7 ≤ 13 * sizes ps
    have h3 := joinL_len (tl (sepS k)) (inns ps)
    have h4 : (tl (sepS k)).length = 3 := by cases k <;> decide +kernel
    have h5 : (inns ps).length = ps.length := by rw [inns_map, List.length_map]
    rw [if_neg (by intro e; rw [e] at h5; simp at h5; omega), h4, h5] at h3
    omega
theorem inns_len : ∀ ps : List Ci, oks ps → ((inns ps).map List.length).sum + 5 * ps.length ≤ 13 * sizes ps
  | [], _ => by simp [inns, sizes]
  | c :: r, h => by
    have h1 := Ci.tx_len c h.1
    have h2 := inns_len r h.2
    show ((wrapL c c.tx :: inns r).map List.length).sum + 5 * (r.length + 1) ≤ 13 * (c.size + sizes r)
    rw [List.map_cons, List.sum_cons]
    have h3 : (wrapL c c.tx).length ≤ c.tx.length + 2 := by
      cases c with
      | eye n => exact Nat.le_add_right _ _
      | node k ps => show (40 :: (_ ++ [41])).length ≤ _; rw [List.length_cons, List.length_append]; exact Nat.le_refl _
    omega
end
theorem str_len {c : Ci} (h : c.ok) : c.str.length + 7 ≤ 13 * c.size := by
  rw [len_tl, tl_str]
  exact c.tx_len h
mutual
theorem Ci.size_pos : ∀ c : Ci, c.ok → 1 ≤ c.size
  | .eye n, _ => Nat.le_refl _
  | .node k ps, h => Nat.le_trans (Nat.le_trans (by decide) h.1) (sizes_len ps h.2)
theorem sizes_len : ∀ ps : List Ci, oks ps → ps.length ≤ sizes ps
  | [], _ => Nat.zero_le _
  | c :: r, h => by
    have h1 := Ci.size_pos c h.1
    have h2 := sizes_len r h.2
    show r.length + 1 ≤ c.size + sizes r
    omega
end
/-! ### in the heap -/
def flds (kind name : Str) (l : Addr) (s d : Int) (t : Str) : List (Str × V) :=
  putF "_text" (.str t) (putF "depth" (.int d) (putF "size" (.int s) (putF "_parts" (.ref l) (putF "name" (.str name) (putF "kind" (.str kind) [])))))
section
variable {kind name t : Str} {l : Addr} {s d : Int}
theorem fl_text : (flds kind name l s d t).lookup ("_text" : Str) = some (.str t) := by
  unfold flds
  rw [lookup_putF, if_pos rfl]
theorem fl_depth : (flds kind name l s d t).lookup ("depth" : Str) = some (.int d) := by
  unfold flds
  rw [lookup_putF, if_neg (by decide +kernel), lookup_putF, if_pos rfl]
theorem fl_size : (flds kind name l s d t).lookup ("size" : Str) = some (.int s) := by
  unfold flds
  rw [lookup_putF, if_neg (by decide +kernel), lookup_putF, if_neg (by decide +kernel), lookup_putF, if_pos rfl]
theorem fl_parts : (flds kind name l s d t).lookup ("_parts" : Str) = some (.ref l) := by
  unfold flds
  rw [lookup_putF, if_neg (by decide +kernel), lookup_putF, if_neg (by decide +kernel), lookup_putF, if_neg (by decide +kernel), lookup_putF, if_pos rfl]
theorem fl_name : (flds kind name l s d t).lookup ("name" : Str) = some (.str name) := by
  unfold flds
  rw [lookup_putF, if_neg (by decide +kernel), lookup_putF, if_neg (by decide +kernel), lookup_putF, if_neg (by decide +kernel), lookup_putF, if_neg (by decide +kernel), lookup_putF, if_pos rfl]
theorem fl_kind : (flds kind name l s d t).lookup ("kind" : Str) = some (.str kind) := by
  unfold flds
  rw [lookup_putF, if_neg (by decide +kernel), lookup_putF, if_neg (by decide +kernel), lookup_putF, if_neg (by decide +kernel), lookup_putF, if_neg (by decide +kernel), lookup_putF, if_neg (by decide +kernel), lookup_putF, if_pos rfl]
theorem fl_no {m : Str} (h1 : ¬ m = ("_text" : Str)) (h2 : ¬ m = ("depth" : Str)) (h3 : ¬ m = ("size" : Str)) (h4 : ¬ m = ("_parts" : Str)) (h5 : ¬ m = ("name" : Str)) (h6 : ¬ m = ("kind" : Str)) : (flds kind name l s d t).lookup m = none := by
  unfold flds
  rw [lookup_putF, if_neg h1, lookup_putF, if_neg h2, lookup_putF, if_neg h3, lookup_putF, if_neg h4, lookup_putF, if_neg h5, lookup_putF, if_neg h6]
  rfl
end
mutual
inductive CiAt (C : Addr) (H : Hp) : V → Ci → Prop
  | mk {p dx l : Addr} {vs : List V} {c : Ci} {ps : List Ci} : ps = c.parts → H p = some (.ins C dx (flds c.kind c.name l c.size c.depth c.str)) → H l = some (.lst vs) → CisAt C H vs ps → CiAt C H (.ref p) c
inductive CisAt (C : Addr) (H : Hp) : List V → List Ci → Prop
  | nil : CisAt C H [] []
  | cons {v : V} {vs : List V} {c : Ci} {cs : List Ci} : CiAt C H v c → CisAt C H vs cs → CisAt C H (v :: vs) (c :: cs)
end
mutual
theorem CiAt.mono {C : Addr} {H H' : Hp} (e : Ex H H') : ∀ {v : V} {c : Ci}, CiAt C H v c → CiAt C H' v c
  | _, _, .mk h0 h1 h2 h3 => .mk h0 (e _ _ h1) (e _ _ h2) (CisAt.mono e h3)
theorem CisAt.mono {C : Addr} {H H' : Hp} (e : Ex H H') : ∀ {vs : List V} {cs : List Ci}, CisAt C H vs cs → CisAt C H' vs cs
  | _, _, .nil => .nil
  | _, _, .cons h r => .cons (CiAt.mono e h) (CisAt.mono e r)
end
section
variable {C : Addr} {H : Hp}
theorem CisAt.length : ∀ {vs : List V} {cs : List Ci}, CisAt C H vs cs → vs.length = cs.length
  | _, _, .nil => rfl
  | _, _, .cons _ r => congrArg Nat.succ (CisAt.length r)
theorem CisAt.get : ∀ {vs : List V} {cs : List Ci} {i : Nat} {v : V}, CisAt C H vs cs → vs[i]? = some v → ∃ c, cs[i]? = some c ∧ CiAt C H v c
  | _, _, _, _, .nil, e => by simp at e
  | _, _, 0, _, .cons h _, e => by
    simp at e
    subst e
    exact ⟨_, rfl, h⟩
  | _, _, i + 1, v, .cons _ r, e => by
    obtain ⟨c, h1, h2⟩ := CisAt.get (i := i) (v := v) r (by simpa using e)
    exact ⟨c, by simpa using h1, h2⟩
theorem CisAt.append : ∀ {vs ws : List V} {cs ds : List Ci}, CisAt C H vs cs → CisAt C H ws ds → CisAt C H (vs ++ ws) (cs ++ ds)
  | _, _, _, _, .nil, s => s
  | _, _, _, _, .cons h r, s => .cons h (CisAt.append r s)
theorem CisAt.one {v : V} {c : Ci} (h : CiAt C H v c) : CisAt C H [v] [c] := .cons h .nil
theorem CiAt.at_ {v : V} {c : Ci} (h : CiAt C H v c) : ∃ p dx l vs, v = .ref p ∧ H p = some (.ins C dx (flds c.kind c.name l c.size c.depth c.str)) ∧ H l = some (.lst vs) ∧ CisAt C H vs c.parts := by
  cases h with
  | mk h0 h1 h2 h3 =>
    subst h0
    exact ⟨_, _, _, _, rfl, h1, h2, h3⟩
end
/-! ### facts about building -/
theorem flat_append (k : Bool) : ∀ a b : List Ci, flat k (a ++ b) = flat k a ++ flat k b
  | [], _ => rfl
  | c :: r, b => by
    show _ ++ flat k (r ++ b) = (_ ++ flat k r) ++ flat k b
    rw [flat_append k r b, List.append_assoc]
theorem flat_len_take (k : Bool) (cs : List Ci) (i : Nat) : (flat k (cs.take i)).length ≤ (flat k cs).length := by
  have h : flat k cs = flat k (cs.take i) ++ flat k (cs.drop i) := by rw [← flat_append, List.take_append_drop]
  rw [h, List.length_append]
  exact Nat.le_add_right _ _
theorem dd_snoc (c : Ci) : ∀ (acc cs : List Ci), dd acc (cs ++ [c]) = if (dd acc cs).any (fun d => decide (d.str = c.str)) = true then dd acc cs else dd acc cs ++ [c]
  | _, [] => rfl
  | acc, e :: r => by
    show dd acc (e :: (r ++ [c])) = _
    unfold dd
    by_cases h : acc.any (fun d => decide (d.str = e.str)) = true
    · rw [if_pos h, if_pos h]
      exact dd_snoc c acc r
    · rw [if_neg h, if_neg h]
      exact dd_snoc c _ r
theorem dd_sub : ∀ {acc cs : List Ci} {d : Ci}, d ∈ dd acc cs → d ∈ acc ∨ d ∈ cs
  | acc, [], d, h => .inl h
  | acc, e :: r, d, h => by
    unfold dd at h
    by_cases g : acc.any (fun d => decide (d.str = e.str)) = true
    · rw [if_pos g] at h
      exact (dd_sub h).imp_right (List.mem_cons_of_mem _)
    · rw [if_neg g] at h
      rcases dd_sub h with h | h
      · rcases List.mem_append.mp h with h | h
        · exact .inl h
        · rw [List.mem_singleton.mp h]
          exact .inr List.mem_cons_self
      · exact .inr (List.mem_cons_of_mem _ h)
theorem dd_len : ∀ {acc cs : List Ci}, (dd acc cs).length ≤ acc.length + cs.length
  | acc, [] => Nat.le_refl _
  | acc, e :: r => by
    unfold dd
    by_cases g : acc.any (fun d => decide (d.str = e.str)) = true
    · rw [if_pos g]
      have := dd_len (acc := acc) (cs := r)
      rw [List.length_cons]
      omega
    · rw [if_neg g]
      have := dd_len (acc := acc ++ [e]) (cs := r)
      rw [List.length_append, List.length_singleton] at this
      rw [List.length_cons]
      omega
theorem dd_ge : ∀ {acc cs : List Ci}, acc.length ≤ (dd acc cs).length
  | acc, [] => Nat.le_refl _
  | acc, e :: r => by
    unfold dd
    by_cases g : acc.any (fun d => decide (d.str = e.str)) = true
    · rw [if_pos g]
      exact dd_ge
    · rw [if_neg g]
      have := dd_ge (acc := acc ++ [e]) (cs := r)
      rw [List.length_append, List.length_singleton] at this
      omega
theorem dd_ne {cs : List Ci} (h : cs ≠ []) : dd [] cs ≠ [] := by
  cases cs with
  | nil => exact absurd rfl h
  | cons e r =>
    have := dd_ge (acc := [e]) (cs := r)
    intro g
    have g2 : dd [e] r = [] := g
    rw [g2] at this
    exact absurd this (by simp)
def Ci.fine (c : Ci) : Prop := c.ok ∧ c.size ≤ 60
theorem sizes_mem : ∀ {ps : List Ci} {c : Ci}, c ∈ ps → c.size ≤ sizes ps
  | d :: r, c, h => by
    show c.size ≤ d.size + sizes r
    rcases List.mem_cons.mp h with rfl | h
    · omega
    · have := sizes_mem h
      omega
theorem parts_fine {c d : Ci} (h : c.fine) (hd : d ∈ c.parts) : d.fine := by
  cases c with
  | eye n => exact absurd hd (by intro h; cases h)
  | node k ps =>
    have hd : d ∈ ps := hd
    have h2 : sizes ps ≤ 60 := h.2
    exact ⟨oks_mem.mp h.1.2 d hd, Nat.le_trans (sizes_mem hd) h2⟩
theorem flat_fine {k : Bool} : ∀ {cs : List Ci}, (∀ c ∈ cs, c.fine) → ∀ d ∈ flat k cs, d.fine
  | [], _, d, hd => by cases hd
  | c :: r, h, d, hd => by
    unfold flat at hd
    rcases List.mem_append.mp hd with hd | hd
    · by_cases g : c.isK k = true
      · rw [if_pos g] at hd
        exact parts_fine (h c List.mem_cons_self) hd
      · rw [if_neg g] at hd
        rw [List.mem_singleton.mp hd]
        exact h c List.mem_cons_self
    · exact flat_fine (fun e he => h e (List.mem_cons_of_mem _ he)) d hd
theorem parts_len {c : Ci} (h : c.fine) : c.parts.length ≤ 60 := by
  cases c with
  | eye n => exact Nat.zero_le _
  | node k ps => exact Nat.le_trans (sizes_len ps h.1.2) h.2
theorem flat_len {k : Bool} : ∀ {cs : List Ci}, (∀ c ∈ cs, c.fine) → (flat k cs).length ≤ 60 * cs.length
  | [], _ => Nat.le_refl _
  | c :: r, h => by
    unfold flat
    have h1 := flat_len (k := k) (cs := r) fun e he => h e (List.mem_cons_of_mem _ he)
    have h2 := parts_len (h c List.mem_cons_self)
    rw [List.length_append, List.length_cons]
    by_cases g : c.isK k = true
    · rw [if_pos g]
      omega
    · rw [if_neg g, List.length_singleton]
      omega
theorem flat_ne {k : Bool} {cs : List Ci} (hf : ∀ c ∈ cs, c.ok) (h : cs ≠ []) : flat k cs ≠ [] := by
  cases cs with
  | nil => exact absurd rfl h
  | cons c r =>
    intro g
    have g2 : (if c.isK k = true then c.parts else [c]) = [] := (List.append_eq_nil_iff.mp g).1
    by_cases e : c.isK k = true
    · rw [if_pos e] at g2
      have := hf c List.mem_cons_self
      cases c with
      | eye n => cases e
      | node j ps =>
        have h2 : 2 ≤ ps.length := this.1
        have g2 : ps = [] := g2
        rw [g2] at h2
        exact absurd h2 (by decide)
    · rw [if_neg e] at g2
      cases g2
theorem fine_len {c : Ci} (h : c.fine) : c.str.length ≤ 800 := by
  have := str_len h.1
  have := h.2
  omega
def pts (k : Bool) (cs : List Ci) : List Ci := dd [] (flat k cs)
theorem mkC_one {k : Bool} {cs : List Ci} {c : Ci} (h : pts k cs = [c]) : mkC k cs = c := by
  show wrapK k (pts k cs) = c
  rw [h]
  rfl
theorem mkC_more {k : Bool} {cs : List Ci} (h : (pts k cs).length ≠ 1) : mkC k cs = .node k (pts k cs) := by
  show wrapK k (pts k cs) = _
  generalize pts k cs = l at h
  match l, h with
  | [], _ => rfl
  | [c], h => exact absurd rfl h
  | c :: d :: r, _ => rfl
structure Good (k : Bool) (cs : List Ci) : Prop where
  ne : cs ≠ []
  fine : ∀ c ∈ cs, c.fine
  few : cs.length ≤ 1400
  size : (mkC k cs).size ≤ 60
  depth : (mkC k cs).depth ≤ 20
theorem Good.pts_ne {k : Bool} {cs : List Ci} (g : Good k cs) : pts k cs ≠ [] := dd_ne (flat_ne (fun c hc => (g.fine c hc).1) g.ne)
theorem Good.flat_len {k : Bool} {cs : List Ci} (g : Good k cs) : (flat k cs).length ≤ 84000 := by
  have := Eyes.flat_len (k := k) g.fine
  have := g.few
  omega
theorem Good.pts_fine {k : Bool} {cs : List Ci} (g : Good k cs) : ∀ c ∈ pts k cs, c.fine := fun c hc => by
  rcases dd_sub hc with h | h
  · cases h
  · exact flat_fine g.fine c h
theorem Good.ok {k : Bool} {cs : List Ci} (g : Good k cs) : (mkC k cs).fine := by
  refine ⟨?_, g.size⟩
  by_cases h : (pts k cs).length = 1
  · obtain ⟨c, hc⟩ := List.length_eq_one_iff.mp h
    rw [mkC_one hc]
    exact (g.pts_fine c (by rw [hc]; exact List.mem_cons_self)).1
  · rw [mkC_more h]
    refine ⟨?_, oks_mem.mpr fun c hc => (g.pts_fine c hc).1⟩
    have := List.length_pos_iff.mpr g.pts_ne
    omega
end Eyes

set_option Elab.async false
set_option linter.all false
set_option maxRecDepth 100000
set_option maxHeartbeats 4000000
/-! A text tells its circle. -/
namespace Eyes
open PySem PySem.Spec PyProof.Rows L2 Evl TL
def scan : Nat → List Nat → List Nat → List Nat × List Nat
  | _, acc, [] => (acc, [])
  | d, acc, x :: r => if x = 40 then scan (d + 1) (acc ++ [x]) r else if x = 41 then scan (d - 1) (acc ++ [x]) r else if x = 32 ∧ d = 0 then (acc, x :: r) else scan d (acc ++ [x]) r
theorem scan_open {d : Nat} {acc r : List Nat} : scan d acc (40 :: r) = scan (d + 1) (acc ++ [40]) r := by
  rw [scan, if_pos rfl]
theorem scan_close {d : Nat} {acc r : List Nat} : scan (d + 1) acc (41 :: r) = scan d (acc ++ [41]) r := by
  rw [scan, if_neg (by decide), if_pos rfl, Nat.add_sub_cancel]
theorem scan_other {d x : Nat} {acc r : List Nat} (h1 : x ≠ 40) (h2 : x ≠ 41) (h3 : x ≠ 32 ∨ 1 ≤ d) : scan d acc (x :: r) = scan d (acc ++ [x]) r := by
  rw [scan, if_neg h1, if_neg h2, if_neg]
  rintro ⟨a, b⟩
  rcases h3 with h | h
  · exact h a
  · omega
theorem scan_let {d : Nat} : ∀ (n acc r : List Nat), (∀ x ∈ n, 97 ≤ x ∧ x ≤ 122) → scan d acc (n ++ r) = scan d (acc ++ n) r
  | [], acc, r, _ => by rw [List.append_nil]; rfl
  | x :: n, acc, r, h => by
    have hx := h x List.mem_cons_self
    show scan d acc (x :: (n ++ r)) = _
    rw [scan_other (by omega) (by omega) (.inl (by omega)), scan_let n _ r fun y hy => h y (List.mem_cons_of_mem _ hy), List.append_assoc]
    rfl
def Itm (p : List Nat) : Prop := ∀ d acc r, scan d acc (p ++ r) = scan d (acc ++ p) r
theorem sep_tl (k : Bool) : tl (sepS k) = [32, if k = true then 38 else 124, 32] := by cases k <;> decide +kernel
theorem scan_sep {k : Bool} {d : Nat} {acc r : List Nat} : scan (d + 1) acc (tl (sepS k) ++ r) = scan (d + 1) (acc ++ tl (sepS k)) r := by
  rw [sep_tl]
  show scan (d + 1) acc (32 :: (if k = true then 38 else 124) :: 32 :: r) = _
  rw [scan_other (by decide) (by decide) (.inr (by omega)), scan_other (by cases k <;> decide) (by cases k <;> decide) (.inr (by omega)), scan_other (by decide) (by decide) (.inr (by omega))]
  simp
theorem scan_join {k : Bool} {d : Nat} : ∀ (l : List (List Nat)) (acc r : List Nat), (∀ p ∈ l, Itm p) → scan (d + 1) acc (joinL (tl (sepS k)) l ++ r) = scan (d + 1) (acc ++ joinL (tl (sepS k)) l) r
  | [], acc, r, _ => by show scan (d + 1) acc r = scan (d + 1) (acc ++ []) r; rw [List.append_nil]
  | [p], acc, r, h => h p List.mem_cons_self _ _ _
  | p :: q :: l, acc, r, h => by
    show scan (d + 1) acc ((p ++ (tl (sepS k) ++ joinL (tl (sepS k)) (q :: l))) ++ r) = _
    rw [List.append_assoc, h p List.mem_cons_self, List.append_assoc, scan_sep, scan_join (q :: l) _ r fun y hy => h y (List.mem_cons_of_mem _ hy), List.append_assoc, List.append_assoc]
    rfl
mutual
theorem Ci.itm : ∀ c : Ci, c.ok → Itm (wrapL c c.tx)
  | .eye n, h => fun d acc r => scan_let (tl n) acc r h.2.2
  | .node k ps, h => fun d acc r => by
    show scan d acc ((40 :: (joinL (tl (sepS k)) (inns ps) ++ [41])) ++ r) = scan d (acc ++ (40 :: (joinL (tl (sepS k)) (inns ps) ++ [41]))) r
    have e : (40 :: (joinL (tl (sepS k)) (inns ps) ++ [41])) ++ r = 40 :: (joinL (tl (sepS k)) (inns ps) ++ (41 :: r)) := by simp
    rw [e, scan_open, scan_join _ _ _ (inns_itm ps h.2), scan_close]
    simp
theorem inns_itm : ∀ ps : List Ci, oks ps → ∀ p ∈ inns ps, Itm p
  | [], _, p, hp => by cases hp
  | c :: r, h, p, hp => by
    rcases List.mem_cons.mp hp with rfl | hp
    · exact Ci.itm c h.1
    · exact inns_itm r h.2 p hp
end
theorem Itm.all {p : List Nat} (h : Itm p) : scan 0 [] p = (p, []) := by
  have := h 0 [] []
  rw [List.append_nil] at this
  exact this
theorem Itm.cut {p r : List Nat} (h : Itm p) : scan 0 [] (p ++ 32 :: r) = (p, 32 :: r) := by
  rw [h 0 [] (32 :: r), scan, if_neg (by decide), if_neg (by decide), if_pos ⟨rfl, rfl⟩]
  rfl
theorem join_cons (k : Bool) (p q : List Nat) (l : List (List Nat)) : joinL (tl (sepS k)) (p :: q :: l) = p ++ 32 :: (if k = true then 38 else 124) :: 32 :: joinL (tl (sepS k)) (q :: l) := by
  show p ++ (tl (sepS k) ++ _) = _
  rw [sep_tl]
  rfl
theorem join_inj {k : Bool} : ∀ (l m : List (List Nat)), l ≠ [] → m ≠ [] → (∀ p ∈ l, Itm p) → (∀ p ∈ m, Itm p) → joinL (tl (sepS k)) l = joinL (tl (sepS k)) m → l = m
  | [], _, h, _, _, _, _ => absurd rfl h
  | _, [], _, h, _, _, _ => absurd rfl h
  | [p], [q], _, _, _, _, e => by
    have e : p = q := e
    rw [e]
  | [p], q :: q2 :: m, _, _, h1, h2, e => by
    rw [join_cons] at e
    have e : p = _ := e
    have := (h1 p List.mem_cons_self).all
    rw [e, (h2 q List.mem_cons_self).cut] at this
    injection this with a b
    cases b
  | p :: p2 :: l, [q], _, _, h1, h2, e => by
    rw [join_cons] at e
    have e : _ = q := e
    have := (h2 q List.mem_cons_self).all
    rw [← e, (h1 p List.mem_cons_self).cut] at this
    injection this with a b
    cases b
  | p :: p2 :: l, q :: q2 :: m, _, _, h1, h2, e => by
    rw [join_cons, join_cons] at e
    have c1 := (h1 p List.mem_cons_self).cut (r := (if k = true then 38 else 124) :: 32 :: joinL (tl (sepS k)) (p2 :: l))
    rw [e, (h2 q List.mem_cons_self).cut] at c1
    injection c1 with a b
    injection b with _ b
    injection b with _ b
    injection b with _ b
    rw [a, join_inj (p2 :: l) (q2 :: m) (by simp) (by simp) (fun y hy => h1 y (List.mem_cons_of_mem _ hy)) (fun y hy => h2 y (List.mem_cons_of_mem _ hy)) b.symm]
theorem inns_ne {ps : List Ci} (h : 2 ≤ ps.length) : inns ps ≠ [] := by
  rw [inns_map]
  intro e
  have := congrArg List.length e
  rw [List.length_map] at this
  simp at this
  rw [this] at h
  exact absurd h (by decide)
theorem node_cut {k : Bool} {ps : List Ci} (h : (Ci.node k ps).ok) : ∃ p r, (Ci.node k ps).tx = p ++ 32 :: (if k = true then 38 else 124) :: r ∧ Itm p := by
  obtain ⟨h2, h3⟩ := h
  match ps, h2, h3 with
  | c :: d :: r, _, h3 => exact ⟨_, _, join_cons k (wrapL c c.tx) (wrapL d d.tx) (inns r), Ci.itm c h3.1⟩
theorem kind_inj {k j : Bool} (h : (if k = true then 38 else 124) = (if j = true then 38 else 124)) : k = j := by
  cases k <;> cases j <;> first | rfl | exact absurd h (by decide)
mutual
theorem tx_inj : ∀ c d : Ci, c.ok → d.ok → c.tx = d.tx → c = d
  | .eye n, .eye m, _, _, e => by
    have e : tl n = tl m := e
    rw [ext_tl e]
  | .eye n, .node k ps, h1, h2, e => by
    obtain ⟨p, r, e2, hp⟩ := node_cut h2
    have h3 := (Ci.itm (.eye n) h1).all
    have e : tl n = (Ci.node k ps).tx := e
    have h3 : scan 0 [] (tl n) = (tl n, []) := h3
    rw [e, e2, hp.cut] at h3
    injection h3 with a b
    cases b
  | .node k ps, .eye n, h2, h1, e => by
    obtain ⟨p, r, e2, hp⟩ := node_cut h2
    have h3 := (Ci.itm (.eye n) h1).all
    have e : (Ci.node k ps).tx = tl n := e
    have h3 : scan 0 [] (tl n) = (tl n, []) := h3
    rw [← e, e2, hp.cut] at h3
    injection h3 with a b
    cases b
  | .node k ps, .node j qs, h1, h2, e => by
    obtain ⟨p, r, e1, hp⟩ := node_cut h1
    obtain ⟨q, t, e2, hq⟩ := node_cut h2
    have hk : k = j := by
      have h3 := hp.cut (r := (if k = true then 38 else 124) :: r)
      rw [← e1, e, e2, hq.cut] at h3
      injection h3 with a b
      injection b with _ b
      injection b with b _
      exact (kind_inj b).symm
    subst hk
    have e3 := join_inj (k := k) (inns ps) (inns qs) (inns_ne h1.1) (inns_ne h2.1) (inns_itm ps h1.2) (inns_itm qs h2.2) e
    rw [inns_inj ps qs h1.2 h2.2 e3]
theorem inns_inj : ∀ ps qs : List Ci, oks ps → oks qs → inns ps = inns qs → ps = qs
  | [], [], _, _, _ => rfl
  | [], d :: s, _, _, e => by cases e
  | c :: r, [], _, _, e => by cases e
  | c :: r, d :: s, h1, h2, e => by
    have e : wrapL c c.tx :: inns r = wrapL d d.tx :: inns s := e
    injection e with a b
    have a : c.tx = d.tx := by
      cases c with
      | eye n =>
        cases d with
        | eye m => exact a
        | node j qs =>
          have a : tl n = 40 :: _ := a
          have h3 : nm n := h1.1
          have h4 := h3.2.2 40 (by rw [a]; exact List.mem_cons_self)
          omega
      | node k ps =>
        cases d with
        | eye m =>
          have a : 40 :: _ = tl m := a
          have h3 : nm m := h2.1
          have h4 := h3.2.2 40 (by rw [← a]; exact List.mem_cons_self)
          omega
        | node j qs =>
          have a : 40 :: ((Ci.node k ps).tx ++ [41]) = 40 :: ((Ci.node j qs).tx ++ [41]) := a
          injection a with _ a
          exact List.append_cancel_right a
    rw [tx_inj c d h1.1 h2.1 a, inns_inj r s h1.2 h2.2 b]
end
theorem str_inj {c d : Ci} (h1 : c.ok) (h2 : d.ok) (e : c.str = d.str) : c = d := tx_inj c d h1 h2 (by rw [← tl_str, ← tl_str, e])
end Eyes

set_option Elab.async false
set_option linter.all false
set_option maxRecDepth 100000
set_option maxHeartbeats 4000000
/-! Circles as the laws write them: tuples within tuples. -/
namespace Eyes
open PySem PySem.Spec PyProof.Rows L2 Evl TL
mutual
def Ci.data : Ci → PyData
  | .eye n => .tuple [.str "eye", .str n]
  | .node k ps => .tuple [.str (kindS k), .tuple (datas ps)]
def datas : List Ci → List PyData
  | [] => []
  | c :: r => c.data :: datas r
end
theorem datas_map : ∀ ps : List Ci, datas ps = ps.map Ci.data
  | [] => rfl
  | c :: r => by
    show c.data :: datas r = _
    rw [datas_map r]
    rfl
theorem kindS_inj {k j : Bool} (h : kindS k = kindS j) : k = j := by
  cases k <;> cases j <;> first | rfl | exact absurd h (by decide +kernel)
mutual
theorem eqv_data : ∀ c d : Ci, PyData.eqv c.data d.data = true ↔ c = d
  | .eye n, .eye m => by
    simp [Ci.data, PyData.eqv, PyData.eqvAll]
  | .eye n, .node k ps => by
    have h : ∀ k, ("eye" : Str) ≠ kindS k := fun k h => (by cases k <;> exact absurd h (by decide +kernel))
    simp [Ci.data, PyData.eqv, PyData.eqvAll, h]
  | .node k ps, .eye n => by
    have h : ∀ k, kindS k ≠ ("eye" : Str) := fun k h => (by cases k <;> exact absurd h (by decide +kernel))
    simp [Ci.data, PyData.eqv, PyData.eqvAll, h]
  | .node k ps, .node j qs => by
    have h := eqv_datas ps qs
    simp only [Ci.data, PyData.eqv, PyData.eqvAll, Bool.and_true, Bool.and_eq_true, h]
    constructor
    · rintro ⟨a, b⟩
      have a' : k = j := kindS_inj (by simpa using a)
      rw [b, a']
    · intro e
      injection e with a b
      rw [a, b]
      exact ⟨by simp, rfl⟩
theorem eqv_datas : ∀ ps qs : List Ci, PyData.eqvAll (datas ps) (datas qs) = true ↔ ps = qs
  | [], [] => by simp [datas, PyData.eqvAll]
  | [], d :: s => by simp [datas, PyData.eqvAll]
  | c :: r, [] => by simp [datas, PyData.eqvAll]
  | c :: r, d :: s => by
    have h1 := eqv_data c d
    have h2 := eqv_datas r s
    simp [datas, PyData.eqvAll, h1, h2]
end
theorem nm_ok {n : Str} (h : nm n) : PyData.strOk n = true := by
  show n.cps.all (fun c => decide (c < 1114112)) = true
  rw [← Array.all_toList, List.all_eq_true]
  intro x hx
  have := h.2.2 x hx
  exact decide_eq_true (by omega)
mutual
theorem lay_data : ∀ c : Ci, c.ok → PyData.canLay0 c.data = true
  | .eye n, h => by
    have h1 := nm_ok h
    have h2 : PyData.strOk "eye" = true := by decide +kernel
    simp [Ci.data, PyData.canLay0, PyData.canLayAll0, h1, h2]
  | .node k ps, h => by
    have h1 := lay_datas ps h.2
    have h2 : PyData.strOk (kindS k) = true := by cases k <;> decide +kernel
    simp [Ci.data, PyData.canLay0, PyData.canLayAll0, h1, h2]
theorem lay_datas : ∀ ps : List Ci, oks ps → PyData.canLayAll0 (datas ps) = true
  | [], _ => rfl
  | c :: r, h => by
    simp [datas, PyData.canLayAll0, lay_data c h.1, lay_datas r h.2]
end
mutual
theorem dep_data : ∀ c : Ci, PyData.depth c.data ≤ 2 * c.depth + 1
  | .eye n => Nat.le_refl 1
  | .node k ps => by
    have h := dep_datas ps
    show max 0 (max (PyData.depthAll (datas ps) + 1) 0) + 1 ≤ 2 * (1 + depths ps) + 1
    omega
theorem dep_datas : ∀ ps : List Ci, PyData.depthAll (datas ps) ≤ 2 * depths ps + 1
  | [] => Nat.zero_le _
  | c :: r => by
    have h := dep_data c
    have h2 := dep_datas r
    show max (PyData.depth c.data) (PyData.depthAll (datas r)) ≤ 2 * max c.depth (depths r) + 1
    omega
end
def dl : List Ci → List Ci → List Ci
  | acc, [] => acc
  | acc, c :: r => if (datas acc).any (fun z => PyData.eqv z c.data) = true then dl acc r else dl (acc ++ [c]) r
theorem any_eqv {acc : List Ci} {c : Ci} (h1 : ∀ d ∈ acc, d.ok) (h2 : c.ok) : (datas acc).any (fun z => PyData.eqv z c.data) = acc.any fun d => decide (d.str = c.str) := by
  rw [datas_map, List.any_map]
  induction acc with
  | nil => rfl
  | cons d r ih =>
    rw [List.any_cons, List.any_cons, ih fun e he => h1 e (List.mem_cons_of_mem _ he)]
    refine congrArg (· || _) ?_
    have h3 : PyData.eqv d.data c.data = true ↔ d.str = c.str := (eqv_data d c).trans ⟨fun e => by rw [e], fun e => str_inj (h1 d List.mem_cons_self) h2 e⟩
    show PyData.eqv d.data c.data = decide (d.str = c.str)
    by_cases g : d.str = c.str
    · rw [decide_eq_true g, h3.mpr g]
    · rw [decide_eq_false g]
      cases e : PyData.eqv d.data c.data with
      | true => exact absurd (h3.mp e) g
      | false => rfl
theorem dl_dd : ∀ {acc cs : List Ci}, (∀ d ∈ acc, d.ok) → (∀ d ∈ cs, d.ok) → dl acc cs = dd acc cs
  | acc, [], _, _ => rfl
  | acc, c :: r, h1, h2 => by
    unfold dl dd
    rw [any_eqv h1 (h2 c List.mem_cons_self)]
    by_cases g : acc.any (fun d => decide (d.str = c.str)) = true
    · rw [if_pos g, if_pos g]
      exact dl_dd h1 fun d hd => h2 d (List.mem_cons_of_mem _ hd)
    · rw [if_neg g, if_neg g]
      refine dl_dd (fun d hd => ?_) fun d hd => h2 d (List.mem_cons_of_mem _ hd)
      rcases List.mem_append.mp hd with hd | hd
      · exact h1 d hd
      · rw [List.mem_singleton.mp hd]
        exact h2 c List.mem_cons_self
theorem flat_deep {k : Bool} {n : Nat} : ∀ {cs : List Ci}, (∀ c ∈ cs, c.depth ≤ n) → ∀ d ∈ flat k cs, d.depth ≤ n
  | [], _, d, hd => by cases hd
  | c :: r, h, d, hd => by
    unfold flat at hd
    rcases List.mem_append.mp hd with hd | hd
    · by_cases g : c.isK k = true
      · rw [if_pos g] at hd
        cases c with
        | eye n => cases g
        | node j ps =>
          have hd : d ∈ ps := hd
          have h1 : 1 + depths ps ≤ n := h (.node j ps) List.mem_cons_self
          have := depths_le hd
          omega
      · rw [if_neg g] at hd
        rw [List.mem_singleton.mp hd]
        exact h c List.mem_cons_self
    · exact flat_deep (fun e he => h e (List.mem_cons_of_mem _ he)) d hd
theorem flat_ok {k : Bool} : ∀ {cs : List Ci}, (∀ c ∈ cs, c.ok) → ∀ d ∈ flat k cs, d.ok
  | [], _, d, hd => by cases hd
  | c :: r, h, d, hd => by
    unfold flat at hd
    rcases List.mem_append.mp hd with hd | hd
    · by_cases g : c.isK k = true
      · rw [if_pos g] at hd
        cases c with
        | eye n => cases g
        | node j ps => exact oks_mem.mp (h (.node j ps) List.mem_cons_self).2 d hd
      · rw [if_neg g] at hd
        rw [List.mem_singleton.mp hd]
        exact h c List.mem_cons_self
    · exact flat_ok (fun e he => h e (List.mem_cons_of_mem _ he)) d hd
theorem shaped_data {c : Ci} (h : c.ok) (hd : c.depth ≤ 25) : SeqAt.shaped c.data = true := by
  unfold SeqAt.shaped
  have := dep_data c
  rw [lay_data c h, decide_eq_true (by omega)]
  rfl
theorem shaped_datas {cs : List Ci} (h : ∀ c ∈ cs, c.ok) (hd : ∀ c ∈ cs, c.depth ≤ 25) : SeqAt.shaped (.list (datas cs)) = true := by
  have h1 : PyData.canLay0 (.list (datas cs)) = true := lay_datas cs (oks_mem.mpr h)
  have h2 : PyData.depth (.list (datas cs)) ≤ 64 := by
    have h3 := dep_datas cs
    have h4 : depths cs ≤ 25 := by
      cases cs with
      | nil => exact Nat.zero_le _
      | cons c r =>
        obtain ⟨d, hd1, e⟩ := depths_mem (ps := c :: r) (by simp)
        rw [e]
        exact hd d hd1
    show PyData.depthAll (datas cs) + 1 ≤ 64
    omega
  unfold SeqAt.shaped
  rw [h1, decide_eq_true h2]
  rfl
end Eyes

set_option Elab.async false
set_option linter.all false
set_option maxRecDepth 100000
set_option maxHeartbeats 4000000
/-! Normal circles: what joining gives, and what signs build. -/
namespace Eyes
open PySem PySem.Spec PyProof.Rows L2 Evl TL
mutual
def Ci.norm : Ci → Prop
  | .eye n => nm n
  | .node k ps => 2 ≤ ps.length ∧ (∀ c ∈ ps, c.isK k = false) ∧ ps.Nodup ∧ norms ps
def norms : List Ci → Prop
  | [] => True
  | c :: r => c.norm ∧ norms r
end
theorem norms_mem : ∀ {ps : List Ci}, norms ps ↔ ∀ c ∈ ps, c.norm
  | [] => ⟨fun _ _ h => (nomatch h), fun _ => True.intro⟩
  | c :: r => by
    show c.norm ∧ norms r ↔ _
    rw [norms_mem (ps := r)]
    constructor
    · rintro ⟨h1, h2⟩ d hd
      rcases List.mem_cons.mp hd with rfl | hd
      · exact h1
      · exact h2 d hd
    · intro h
      exact ⟨h c List.mem_cons_self, fun d hd => h d (List.mem_cons_of_mem _ hd)⟩
mutual
theorem Ci.norm_ok : ∀ c : Ci, c.norm → c.ok
  | .eye n, h => h
  | .node k ps, h => ⟨h.1, norms_ok ps h.2.2.2⟩
theorem norms_ok : ∀ ps : List Ci, norms ps → oks ps
  | [], _ => True.intro
  | c :: r, h => ⟨Ci.norm_ok c h.1, norms_ok r h.2⟩
end
theorem norm_of {c : Ci} (h : c.norm) : c.ok := c.norm_ok h
theorem any_str {acc : List Ci} {c : Ci} (h1 : ∀ d ∈ acc, d.ok) (h2 : c.ok) : acc.any (fun d => decide (d.str = c.str)) = true ↔ c ∈ acc := by
  rw [List.any_eq_true]
  constructor
  · rintro ⟨d, hd, e⟩
    rw [← str_inj (h1 d hd) h2 (of_decide_eq_true e)]
    exact hd
  · intro h
    exact ⟨c, h, decide_eq_true rfl⟩
theorem dd_nodup : ∀ {acc cs : List Ci}, (∀ d ∈ acc, d.ok) → (∀ d ∈ cs, d.ok) → (acc ++ cs).Nodup → dd acc cs = acc ++ cs
  | acc, [], _, _, _ => by rw [List.append_nil]; rfl
  | acc, c :: r, h1, h2, h3 => by
    unfold dd
    have hc : c ∉ acc := fun h => by
      have := (List.nodup_append.mp h3).2.2 c h c List.mem_cons_self
      exact this rfl
    rw [if_neg (fun h => hc ((any_str h1 (h2 c List.mem_cons_self)).mp h))]
    rw [dd_nodup (acc := acc ++ [c]) (cs := r) (fun d hd => ?_) (fun d hd => h2 d (List.mem_cons_of_mem _ hd)) (by rw [List.append_assoc]; exact h3), List.append_assoc]
    · rfl
    · rcases List.mem_append.mp hd with hd | hd
      · exact h1 d hd
      · rw [List.mem_singleton.mp hd]
        exact h2 c List.mem_cons_self
theorem dd_is_nodup : ∀ {acc cs : List Ci}, (∀ d ∈ acc, d.ok) → (∀ d ∈ cs, d.ok) → acc.Nodup → (dd acc cs).Nodup
  | acc, [], _, _, h => h
  | acc, c :: r, h1, h2, h3 => by
    unfold dd
    have h4 : ∀ d ∈ r, d.ok := fun d hd => h2 d (List.mem_cons_of_mem _ hd)
    by_cases g : acc.any (fun d => decide (d.str = c.str)) = true
    · rw [if_pos g]
      exact dd_is_nodup h1 h4 h3
    · rw [if_neg g]
      have hc : c ∉ acc := fun h => g ((any_str h1 (h2 c List.mem_cons_self)).mpr h)
      refine dd_is_nodup (fun d hd => ?_) h4 ?_
      · rcases List.mem_append.mp hd with hd | hd
        · exact h1 d hd
        · rw [List.mem_singleton.mp hd]
          exact h2 c List.mem_cons_self
      · refine List.nodup_append.mpr ⟨h3, (by simp), fun a ha b hb => ?_⟩
        rw [List.mem_singleton.mp hb]
        intro e
        exact hc (e ▸ ha)
theorem flat_norm {k : Bool} : ∀ {cs : List Ci}, (∀ c ∈ cs, c.norm) → ∀ d ∈ flat k cs, d.norm ∧ d.isK k = false
  | [], _, d, hd => by cases hd
  | c :: r, h, d, hd => by
    unfold flat at hd
    have hc := h c List.mem_cons_self
    rcases List.mem_append.mp hd with hd | hd
    · by_cases g : c.isK k = true
      · rw [if_pos g] at hd
        cases c with
        | eye n => cases g
        | node j ps =>
          have hd2 : d ∈ ps := hd
          have g : (j == k) = true := g
          have e : j = k := by simpa using g
          subst e
          exact ⟨norms_mem.mp hc.2.2.2 d hd2, hc.2.1 d hd2⟩
      · rw [if_neg g] at hd
        rw [List.mem_singleton.mp hd]
        exact ⟨hc, by simpa using g⟩
    · exact flat_norm (fun e he => h e (List.mem_cons_of_mem _ he)) d hd
theorem mkC_norm {k : Bool} {cs : List Ci} (hne : cs ≠ []) (h : ∀ c ∈ cs, c.norm) : (mkC k cs).norm := by
  have hf := flat_norm (k := k) h
  have hok : ∀ d ∈ flat k cs, d.ok := fun d hd => norm_of (hf d hd).1
  have hsub : ∀ d ∈ pts k cs, d ∈ flat k cs := fun d hd => by
    rcases dd_sub hd with g | g
    · cases g
    · exact g
  by_cases h1 : (pts k cs).length = 1
  · obtain ⟨c, hc⟩ := List.length_eq_one_iff.mp h1
    rw [mkC_one hc]
    exact (hf c (hsub c (by rw [hc]; exact List.mem_cons_self))).1
  · rw [mkC_more h1]
    have hn : pts k cs ≠ [] := dd_ne (flat_ne (fun c hc => norm_of (h c hc)) hne)
    have := List.length_pos_iff.mpr hn
    exact ⟨by omega, fun d hd => (hf d (hsub d hd)).2, dd_is_nodup (fun _ h => by cases h) hok List.nodup_nil, norms_mem.mpr fun d hd => (hf d (hsub d hd)).1⟩
theorem flat_not {k : Bool} : ∀ {cs : List Ci}, (∀ c ∈ cs, c.isK k = false) → flat k cs = cs
  | [], _ => rfl
  | c :: r, h => by
    unfold flat
    rw [if_neg (by rw [h c List.mem_cons_self]; decide), flat_not fun d hd => h d (List.mem_cons_of_mem _ hd)]
    rfl
def some_of (k : Bool) : List Ci → Ci
  | [c] => c
  | ps => .node k ps
theorem some_node {k : Bool} {ps : List Ci} (h : 2 ≤ ps.length) : some_of k ps = .node k ps := by
  match ps, h with
  | c :: d :: r, _ => rfl
theorem sign_step {k : Bool} {ps : List Ci} {c : Ci} (hne : ps ≠ []) (h : (Ci.node k (ps ++ [c])).norm) : mkC k [some_of k ps, c] = .node k (ps ++ [c]) := by
  obtain ⟨h1, h2, h3, h4⟩ := h
  have hok : ∀ d ∈ ps ++ [c], d.ok := fun d hd => norm_of (norms_mem.mp h4 d hd)
  have hc : c.isK k = false := h2 c (by simp)
  have hfl : flat k [some_of k ps, c] = ps ++ [c] := by
    have e2 : flat k [c] = [c] := flat_not fun d hd => by rw [List.mem_singleton.mp hd]; exact hc
    match ps, hne with
    | [d], _ =>
      exact flat_not (cs := [d, c]) h2
    | d :: e :: r, _ =>
      show (if (k == k) = true then (d :: e :: r) else [some_of k (d :: e :: r)]) ++ flat k [c] = _
      rw [if_pos (by simp), e2]
  have hp : pts k [some_of k ps, c] = ps ++ [c] := by
    show dd [] (flat k [some_of k ps, c]) = _
    rw [hfl]
    exact dd_nodup (acc := []) (fun _ h => by cases h) hok h3
  rw [mkC_more (by rw [hp]; omega), hp]
theorem sizes_append : ∀ a b : List Ci, sizes (a ++ b) = sizes a + sizes b
  | [], b => by show sizes b = 0 + sizes b; omega
  | c :: r, b => by
    show c.size + sizes (r ++ b) = (c.size + sizes r) + sizes b
    rw [sizes_append r b]
    omega
theorem depths_app : ∀ a b : List Ci, depths a ≤ depths (a ++ b)
  | [], b => Nat.zero_le _
  | c :: r, b => by
    show max c.depth (depths r) ≤ max c.depth (depths (r ++ b))
    have := depths_app r b
    omega
theorem norms_take {ps : List Ci} (k : Bool) {i : Nat} (h : (Ci.node k ps).norm) (hi : 2 ≤ i) (hl : i ≤ ps.length) : (Ci.node k (ps.take i)).norm := by
  obtain ⟨h1, h2, h3, h4⟩ := h
  refine ⟨by rw [List.length_take]; omega, fun c hc => h2 c (List.mem_of_mem_take hc), h3.sublist (List.take_sublist _ _), norms_mem.mpr fun c hc => norms_mem.mp h4 c (List.mem_of_mem_take hc)⟩
theorem sizes_take (ps : List Ci) (i : Nat) : sizes (ps.take i) ≤ sizes ps := by
  have h : sizes ps = sizes (ps.take i) + sizes (ps.drop i) := by rw [← sizes_append, List.take_append_drop]
  omega
theorem depths_take (ps : List Ci) (i : Nat) : depths (ps.take i) ≤ depths ps := by
  have h := depths_app (ps.take i) (ps.drop i)
  rw [List.take_append_drop] at h
  exact h
theorem some_fine {k : Bool} {ps : List Ci} {j : Nat} (h : (Ci.node k ps).norm) (hs : sizes ps ≤ 60) (h1 : 1 ≤ j) (h2 : j ≤ ps.length) : (some_of k (ps.take j)).fine := by
  by_cases hj : 2 ≤ j
  · rw [some_node (by rw [List.length_take]; omega)]
    exact ⟨norm_of (norms_take k h hj h2), Nat.le_trans (sizes_take ps j) hs⟩
  · have e : j = 1 := by omega
    subst e
    match ps, h, hs, h2 with
    | c :: r, h, hs, _ =>
      have hc : c.norm := norms_mem.mp h.2.2.2 c List.mem_cons_self
      exact ⟨norm_of hc, Nat.le_trans (sizes_mem (ps := c :: r) List.mem_cons_self) hs⟩
theorem good_step {k : Bool} {ps : List Ci} {c : Ci} {j : Nat} (h : (Ci.node k ps).norm) (hs : sizes ps ≤ 60) (hd : 1 + depths ps ≤ 20) (h1 : 1 ≤ j) (hc : ps[j]? = some c) : mkC k [some_of k (ps.take j), c] = some_of k (ps.take (j + 1)) ∧ Good k [some_of k (ps.take j), c] := by
  have hj : j < ps.length := (List.getElem?_eq_some_iff.mp hc).1
  have ht : ps.take (j + 1) = ps.take j ++ [c] := by
    rw [List.take_add_one, hc]
    rfl
  have hne : ps.take j ≠ [] := fun e => by
    have := congrArg List.length e
    rw [List.length_take, List.length_nil] at this
    omega
  have hn : (Ci.node k (ps.take j ++ [c])).norm := by
    rw [← ht]
    exact norms_take k h (by omega) (by omega)
  have hm := sign_step hne hn
  have e2 : some_of k (ps.take (j + 1)) = .node k (ps.take j ++ [c]) := by
    rw [some_node (by rw [List.length_take]; omega), ht]
  refine ⟨by rw [hm, e2], by simp, fun d hd => ?_, by show 2 ≤ 1400; decide, ?_, ?_⟩
  · rcases List.mem_cons.mp hd with rfl | hd
    · exact some_fine h hs h1 (by omega)
    · rw [List.mem_singleton.mp hd]
      have hcm := List.mem_of_getElem? hc
      exact ⟨norm_of (norms_mem.mp h.2.2.2 c hcm), Nat.le_trans (sizes_mem hcm) hs⟩
  · rw [hm, ← ht]
    exact Nat.le_trans (sizes_take ps (j + 1)) hs
  · rw [hm, ← ht]
    have := depths_take ps (j + 1)
    show 1 + depths (ps.take (j + 1)) ≤ 20
    omega
theorem sizes_flat {k : Bool} : ∀ cs : List Ci, sizes (flat k cs) = sizes cs
  | [] => rfl
  | c :: r => by
    unfold flat
    rw [sizes_append, sizes_flat r]
    show _ = c.size + sizes r
    by_cases g : c.isK k = true
    · rw [if_pos g]
      cases c with
      | eye n => cases g
      | node j ps => rfl
    · rw [if_neg g]
      rfl
theorem sizes_dd : ∀ {acc cs : List Ci}, sizes (dd acc cs) ≤ sizes acc + sizes cs
  | acc, [] => Nat.le_add_right _ _
  | acc, c :: r => by
    unfold dd
    have e : sizes (c :: r) = c.size + sizes r := rfl
    by_cases g : acc.any (fun d => decide (d.str = c.str)) = true
    · rw [if_pos g, e]
      have := sizes_dd (acc := acc) (cs := r)
      omega
    · rw [if_neg g, e]
      have h := sizes_dd (acc := acc ++ [c]) (cs := r)
      rw [sizes_append] at h
      have e2 : sizes [c] = c.size := rfl
      omega
theorem mkC_size (k : Bool) (cs : List Ci) : (mkC k cs).size ≤ sizes cs := by
  have h : sizes (pts k cs) ≤ sizes cs := by
    have := sizes_dd (acc := []) (cs := flat k cs)
    rw [sizes_flat] at this
    have e : sizes [] = 0 := rfl
    show sizes (dd [] (flat k cs)) ≤ _
    omega
  by_cases h1 : (pts k cs).length = 1
  · obtain ⟨c, hc⟩ := List.length_eq_one_iff.mp h1
    rw [mkC_one hc]
    rw [hc] at h
    exact h
  · rw [mkC_more h1]
    exact h
theorem depths_all {n : Nat} : ∀ {ps : List Ci}, (∀ c ∈ ps, c.depth ≤ n) → depths ps ≤ n
  | [], _ => Nat.zero_le _
  | c :: r, h => by
    have h1 := h c List.mem_cons_self
    have h2 := depths_all (ps := r) fun d hd => h d (List.mem_cons_of_mem _ hd)
    show max c.depth (depths r) ≤ n
    omega
theorem mkC_depth {k : Bool} {cs : List Ci} {n : Nat} (h : ∀ c ∈ cs, c.depth ≤ n) : (mkC k cs).depth ≤ n + 1 := by
  have hf : ∀ d ∈ pts k cs, d.depth ≤ n := fun d hd => by
    rcases dd_sub hd with g | g
    · cases g
    · exact flat_deep h d g
  by_cases h1 : (pts k cs).length = 1
  · obtain ⟨c, hc⟩ := List.length_eq_one_iff.mp h1
    rw [mkC_one hc]
    have := hf c (by rw [hc]; exact List.mem_cons_self)
    omega
  · rw [mkC_more h1]
    have := depths_all hf
    show 1 + depths (pts k cs) ≤ n + 1
    omega
theorem sizes_mul {m : Nat} : ∀ {ps : List Ci}, (∀ c ∈ ps, c.size ≤ m) → sizes ps ≤ ps.length * m
  | [], _ => Nat.zero_le _
  | c :: r, h => by
    have h1 := h c List.mem_cons_self
    have h2 := sizes_mul (ps := r) fun d hd => h d (List.mem_cons_of_mem _ hd)
    rw [List.length_cons, Nat.succ_mul]
    show c.size + sizes r ≤ _
    omega
theorem parts_le {c : Ci} (h : c.ok) : c.parts.length ≤ c.size := by
  cases c with
  | eye n => exact Nat.zero_le _
  | node k ps => exact sizes_len ps h.2
theorem flat_le {k : Bool} : ∀ {cs : List Ci}, (∀ c ∈ cs, c.ok) → (flat k cs).length ≤ sizes cs
  | [], _ => Nat.le_refl _
  | c :: r, h => by
    unfold flat
    have h1 := flat_le (k := k) (cs := r) fun e he => h e (List.mem_cons_of_mem _ he)
    have h2 := parts_le (h c List.mem_cons_self)
    have h3 := c.size_pos (h c List.mem_cons_self)
    rw [List.length_append]
    show _ ≤ c.size + sizes r
    by_cases g : c.isK k = true
    · rw [if_pos g]
      omega
    · rw [if_neg g, List.length_singleton]
      omega
end Eyes

set_option Elab.async false
set_option linter.all false
set_option maxRecDepth 100000
set_option maxHeartbeats 4000000
/-! Putting in, mirroring, exchanging: plain Lean. -/
namespace Eyes
open PySem PySem.Spec PyProof.Rows L2 Evl TL
mutual
def mapC (f : Bool) (r : Str → Str) : Ci → Ci
  | .eye n => .eye (r n)
  | .node k ps => .node (k ^^ f) (mapsC f r ps)
def mapsC (f : Bool) (r : Str → Str) : List Ci → List Ci
  | [] => []
  | c :: s => mapC f r c :: mapsC f r s
end
theorem mapsC_map (f : Bool) (r : Str → Str) : ∀ ps : List Ci, mapsC f r ps = ps.map (mapC f r)
  | [] => rfl
  | c :: s => by
    show mapC f r c :: mapsC f r s = _
    rw [mapsC_map f r s]
    rfl
structure Sw (r : Str → Str) : Prop where
  inv : ∀ n, r (r n) = n
  nm : ∀ n, nm n → nm (r n)
theorem Sw.id : Sw (fun n => n) := ⟨fun _ => rfl, fun _ h => h⟩
def swp2 (x y n : Str) : Str := if n = x then y else if n = y then x else n
theorem swp2_left (x y : Str) : swp2 x y x = y := by
  unfold swp2
  rw [if_pos rfl]
theorem swp2_right (x y : Str) : swp2 x y y = x := by
  unfold swp2
  by_cases h : y = x
  · rw [if_pos h, h]
  · rw [if_neg h, if_pos rfl]
theorem swp2_other {x y n : Str} (h1 : n ≠ x) (h2 : n ≠ y) : swp2 x y n = n := by
  unfold swp2
  rw [if_neg h1, if_neg h2]
theorem swp2_comm (x y : Str) : swp2 y x = swp2 x y := by
  funext n
  unfold swp2
  by_cases h1 : n = x
  · by_cases h2 : n = y
    · rw [if_pos h2, if_pos h1, ← h1, ← h2]
    · rw [if_neg h2, if_pos h1, if_pos h1]
  · rw [if_neg h1, if_neg h1]
theorem Sw.two {x y : Str} (hx : Eyes.nm x) (hy : Eyes.nm y) : Sw (swp2 x y) := by
  refine ⟨fun n => ?_, fun n h => ?_⟩
  · unfold swp2
    by_cases h1 : n = x
    · rw [if_pos h1]
      by_cases h2 : y = x
      · rw [if_pos h2, h2, h1]
      · rw [if_neg h2, if_pos rfl, h1]
    · rw [if_neg h1]
      by_cases h2 : n = y
      · rw [if_pos h2, if_pos rfl, h2]
      · rw [if_neg h2, if_neg h1, if_neg h2]
  · unfold swp2
    by_cases h1 : n = x
    · rw [if_pos h1]; exact hy
    · rw [if_neg h1]
      by_cases h2 : n = y
      · rw [if_pos h2]; exact hx
      · rw [if_neg h2]; exact h
section
variable {f : Bool} {r : Str → Str}
mutual
theorem mapC_inv (R : Sw r) : ∀ c : Ci, mapC f r (mapC f r c) = c
  | .eye n => by
    show Ci.eye (r (r n)) = _
    rw [R.inv]
  | .node k ps => by
    show Ci.node ((k ^^ f) ^^ f) (mapsC f r (mapsC f r ps)) = _
    rw [mapsC_inv R ps]
    cases k <;> cases f <;> rfl
theorem mapsC_inv (R : Sw r) : ∀ ps : List Ci, mapsC f r (mapsC f r ps) = ps
  | [] => rfl
  | c :: s => by
    show mapC f r (mapC f r c) :: mapsC f r (mapsC f r s) = _
    rw [mapC_inv R c, mapsC_inv R s]
end
theorem mapC_inj (R : Sw r) {c d : Ci} (h : mapC f r c = mapC f r d) : c = d := by
  rw [← mapC_inv (f := f) R c, h, mapC_inv R d]
mutual
theorem mapC_ok (R : Sw r) : ∀ c : Ci, c.ok → (mapC f r c).ok
  | .eye n, h => R.nm n h
  | .node k ps, h => ⟨by rw [mapsC_map, List.length_map]; exact h.1, mapsC_ok R ps h.2⟩
theorem mapsC_ok (R : Sw r) : ∀ ps : List Ci, oks ps → oks (mapsC f r ps)
  | [], _ => True.intro
  | c :: s, h => ⟨mapC_ok R c h.1, mapsC_ok R s h.2⟩
end
theorem mapC_isK {k : Bool} (c : Ci) : (mapC f r c).isK (k ^^ f) = c.isK k := by
  cases c with
  | eye n => rfl
  | node j ps => show ((j ^^ f) == (k ^^ f)) = (j == k); cases j <;> cases k <;> cases f <;> rfl
mutual
theorem mapC_size : ∀ c : Ci, (mapC f r c).size = c.size
  | .eye n => rfl
  | .node k ps => mapsC_size ps
theorem mapsC_size : ∀ ps : List Ci, sizes (mapsC f r ps) = sizes ps
  | [] => rfl
  | c :: s => by
    show (mapC f r c).size + sizes (mapsC f r s) = c.size + sizes s
    rw [mapC_size c, mapsC_size s]
end
mutual
theorem mapC_depth : ∀ c : Ci, (mapC f r c).depth = c.depth
  | .eye n => rfl
  | .node k ps => by
    show 1 + depths (mapsC f r ps) = 1 + depths ps
    rw [mapsC_depth ps]
theorem mapsC_depth : ∀ ps : List Ci, depths (mapsC f r ps) = depths ps
  | [] => rfl
  | c :: s => by
    show max (mapC f r c).depth (depths (mapsC f r s)) = max c.depth (depths s)
    rw [mapC_depth c, mapsC_depth s]
end
mutual
theorem mapC_norm (R : Sw r) : ∀ c : Ci, c.norm → (mapC f r c).norm
  | .eye n, h => R.nm n h
  | .node k ps, h => by
    refine ⟨by rw [mapsC_map, List.length_map]; exact h.1, fun c hc => ?_, ?_, mapsC_norm R ps h.2.2.2⟩
    · rw [mapsC_map] at hc
      obtain ⟨d, hd, rfl⟩ := List.mem_map.mp hc
      rw [mapC_isK]
      exact h.2.1 d hd
    · rw [mapsC_map]
      exact List.pairwise_map.mpr (h.2.2.1.imp fun {a b} hn e => hn (mapC_inj R e))
theorem mapsC_norm (R : Sw r) : ∀ ps : List Ci, norms ps → norms (mapsC f r ps)
  | [], _ => True.intro
  | c :: s, h => ⟨mapC_norm R c h.1, mapsC_norm R s h.2⟩
end
theorem mapC_parts (c : Ci) : (mapC f r c).parts = mapsC f r c.parts := by cases c <;> rfl
theorem mapsC_append (a b : List Ci) : mapsC f r (a ++ b) = mapsC f r a ++ mapsC f r b := by rw [mapsC_map, mapsC_map, mapsC_map, List.map_append]
theorem flat_mapsC {k : Bool} : ∀ cs : List Ci, flat (k ^^ f) (mapsC f r cs) = mapsC f r (flat k cs)
  | [] => rfl
  | c :: s => by
    show (if (mapC f r c).isK (k ^^ f) = true then (mapC f r c).parts else [mapC f r c]) ++ flat (k ^^ f) (mapsC f r s) = mapsC f r ((if c.isK k = true then c.parts else [c]) ++ flat k s)
    rw [mapC_isK, flat_mapsC s, mapsC_append, mapC_parts]
    by_cases h : c.isK k = true
    · rw [if_pos h, if_pos h]
    · rw [if_neg h, if_neg h]
      rfl
theorem dd_mapsC (R : Sw r) : ∀ {acc cs : List Ci}, (∀ d ∈ acc, d.ok) → (∀ d ∈ cs, d.ok) → dd (mapsC f r acc) (mapsC f r cs) = mapsC f r (dd acc cs)
  | acc, [], _, _ => rfl
  | acc, c :: s, h1, h2 => by
    have hc := h2 c List.mem_cons_self
    have hs : ∀ d ∈ s, d.ok := fun d hd => h2 d (List.mem_cons_of_mem _ hd)
    have ha : ∀ d ∈ mapsC f r acc, d.ok := fun d hd => by
      rw [mapsC_map] at hd
      obtain ⟨e, he, rfl⟩ := List.mem_map.mp hd
      exact mapC_ok R e (h1 e he)
    have h3 : (mapsC f r acc).any (fun d => decide (d.str = (mapC f r c).str)) = acc.any fun d => decide (d.str = c.str) := by
      rw [Bool.eq_iff_iff, any_str ha (mapC_ok R c hc), any_str h1 hc, mapsC_map, List.mem_map]
      exact ⟨fun ⟨d, hd, e⟩ => mapC_inj R e ▸ hd, fun h => ⟨c, h, rfl⟩⟩
    show (if (mapsC f r acc).any (fun d => decide (d.str = (mapC f r c).str)) = true then dd (mapsC f r acc) (mapsC f r s) else dd (mapsC f r acc ++ [mapC f r c]) (mapsC f r s)) = mapsC f r (if acc.any (fun d => decide (d.str = c.str)) = true then dd acc s else dd (acc ++ [c]) s)
    rw [h3]
    by_cases h : acc.any (fun d => decide (d.str = c.str)) = true
    · rw [if_pos h, if_pos h]
      exact dd_mapsC R h1 hs
    · rw [if_neg h, if_neg h]
      rw [← dd_mapsC R (acc := acc ++ [c]) (fun d hd => ?_) hs, mapsC_append]
      · rfl
      · rcases List.mem_append.mp hd with hd | hd
        · exact h1 d hd
        · rw [List.mem_singleton.mp hd]; exact hc
theorem mkC_mapsC (R : Sw r) {k : Bool} {cs : List Ci} (h : ∀ c ∈ cs, c.ok) : mkC (k ^^ f) (mapsC f r cs) = mapC f r (mkC k cs) := by
  have hp : pts (k ^^ f) (mapsC f r cs) = mapsC f r (pts k cs) := by
    show dd (mapsC f r []) (flat (k ^^ f) (mapsC f r cs)) = mapsC f r (dd [] (flat k cs))
    rw [flat_mapsC]
    exact dd_mapsC R (fun _ h => by cases h) (flat_ok h)
  by_cases h1 : (pts k cs).length = 1
  · obtain ⟨c, hc⟩ := List.length_eq_one_iff.mp h1
    rw [mkC_one hc, mkC_one (c := mapC f r c) (by rw [hp, hc]; rfl)]
  · rw [mkC_more h1, mkC_more (by rw [hp, mapsC_map, List.length_map]; exact h1), hp]
    rfl
end
theorem mkC_self {k : Bool} {ps : List Ci} (h : (Ci.node k ps).norm) : mkC k ps = .node k ps := by
  obtain ⟨h1, h2, h3, h4⟩ := h
  have hp : pts k ps = ps := by
    show dd [] (flat k ps) = ps
    rw [flat_not h2]
    exact dd_nodup (acc := []) (fun _ h => by cases h) (fun d hd => norm_of (norms_mem.mp h4 d hd)) h3
  rw [mkC_more (by rw [hp]; omega), hp]
abbrev flip (c : Ci) : Ci := mapC true (fun n => n) c
theorem flip_mk {k : Bool} {ps : List Ci} (h : (Ci.node k ps).norm) : mkC (!k) (ps.map flip) = flip (.node k ps) := by
  have h2 := mkC_mapsC (f := true) Sw.id (k := k) (cs := ps) fun c hc => norm_of (norms_mem.mp h.2.2.2 c hc)
  rw [mkC_self h] at h2
  have e : mkC (!k) (ps.map flip) = mkC (k ^^ true) (mapsC true (fun n => n) ps) := by
    rw [mapsC_map]
    cases k <;> rfl
  exact e.trans h2
/-! ### which bound is passed -/
def over (c : Ci) : Option (Str × Nat) := if 60 < c.size then some ("eyes", 60) else if 20 < c.depth then some ("depth", 20) else none
theorem over_none {c : Ci} : over c = none ↔ c.size ≤ 60 ∧ c.depth ≤ 20 := by
  unfold over
  by_cases h : 60 < c.size
  · rw [if_pos h]
    exact ⟨fun z => (nomatch z), fun z => absurd z.1 (by omega)⟩
  · rw [if_neg h]
    by_cases g : 20 < c.depth
    · rw [if_pos g]
      exact ⟨fun z => (nomatch z), fun z => absurd z.2 (by omega)⟩
    · rw [if_neg g]
      exact ⟨fun _ => ⟨by omega, by omega⟩, fun _ => rfl⟩
theorem over_mapC {f : Bool} {r : Str → Str} (c : Ci) : over (mapC f r c) = over c := by
  unfold over
  rw [mapC_size, mapC_depth]
/-! ### putting in -/
inductive Rs (α : Type) where
  | no (z : Str × Nat)
  | yes (a : α)
def Rs.map {α β : Type} (h : α → β) : Rs α → Rs β
  | .no z => .no z
  | .yes a => .yes (h a)
def Rs.bind {α β : Type} : Rs α → (α → Rs β) → Rs β
  | .no z, _ => .no z
  | .yes a, h => h a
def chk (c : Ci) : Rs Ci := match over c with
  | some z => .no z
  | none => .yes c
mutual
def putC (g : Str → Ci) : Ci → Rs Ci
  | .eye n => .yes (g n)
  | .node k ps => (putsC g ps).bind fun cs => chk (mkC k cs)
def putsC (g : Str → Ci) : List Ci → Rs (List Ci)
  | [] => .yes []
  | c :: s => (putC g c).bind fun d => (putsC g s).bind fun ds => .yes (d :: ds)
end
theorem putsC_app (g : Str → Ci) : ∀ a b : List Ci, putsC g (a ++ b) = (putsC g a).bind fun x => (putsC g b).bind fun y => .yes (x ++ y)
  | [], b => by
    show putsC g b = (putsC g b).bind fun y => .yes y
    cases putsC g b <;> rfl
  | c :: s, b => by
    show ((putC g c).bind fun d => (putsC g (s ++ b)).bind fun ds => .yes (d :: ds)) = _
    rw [putsC_app g s b]
    show _ = ((putC g c).bind fun d => (putsC g s).bind fun ds => .yes (d :: ds)).bind fun x => (putsC g b).bind fun y => .yes (x ++ y)
    cases putC g c with
    | no z => rfl
    | yes d =>
      cases putsC g s with
      | no z => rfl
      | yes ds =>
        cases putsC g b <;> rfl
theorem putsC_snoc {g : Str → Ci} {ps ds : List Ci} {i : Nat} {c : Ci} (h : putsC g (ps.take i) = .yes ds) (hc : ps[i]? = some c) : putsC g (ps.take (i + 1)) = (putC g c).bind fun d => .yes (ds ++ [d]) := by
  rw [List.take_add_one, hc]
  show putsC g (ps.take i ++ [c]) = _
  rw [putsC_app, h]
  show (((putC g c).bind fun d => (putsC g []).bind fun ds => .yes (d :: ds)).bind fun y => .yes (ds ++ y)) = _
  cases putC g c <;> rfl
theorem putsC_cut {g : Str → Ci} {ps ds : List Ci} {i : Nat} {c : Ci} {z : Str × Nat} (h : putsC g (ps.take i) = .yes ds) (hc : ps[i]? = some c) (e : putC g c = .no z) : putsC g ps = .no z := by
  have h1 : ps = ps.take (i + 1) ++ ps.drop (i + 1) := (List.take_append_drop _ _).symm
  rw [h1, putsC_app, putsC_snoc h hc, e]
  rfl
theorem putC_node {g : Str → Ci} {k : Bool} {ps : List Ci} : putC g (.node k ps) = (putsC g ps).bind fun cs => chk (mkC k cs) := rfl
def Ci.nice (c : Ci) : Prop := c.norm ∧ c.size ≤ 60 ∧ c.depth ≤ 20
theorem Ci.nice.fine {c : Ci} (h : c.nice) : c.fine := ⟨norm_of h.1, h.2.1⟩
theorem Ci.nice.over {c : Ci} (h : c.nice) : over c = none := over_none.mpr h.2
theorem parts_nice {c d : Ci} (h : c.nice) (hd : d ∈ c.parts) : d.nice := by
  cases c with
  | eye n => cases hd
  | node k ps =>
    have hd : d ∈ ps := hd
    have h2 : sizes ps ≤ 60 := h.2.1
    have h3 : 1 + depths ps ≤ 20 := h.2.2
    have h4 := depths_le hd
    exact ⟨norms_mem.mp h.1.2.2.2 d hd, Nat.le_trans (sizes_mem hd) h2, by omega⟩
theorem mapC_nice {f : Bool} {r : Str → Str} (R : Sw r) {c : Ci} (h : c.nice) : (mapC f r c).nice := ⟨mapC_norm R c h.1, by rw [mapC_size]; exact h.2.1, by rw [mapC_depth]; exact h.2.2⟩
section
variable {g : Str → Ci}
theorem putsC_len : ∀ {ps cs : List Ci}, putsC g ps = .yes cs → cs.length = ps.length
  | [], cs, h => by cases h; rfl
  | c :: s, cs, h => by
    unfold putsC at h
    cases h1 : putC g c with
    | no z => rw [h1] at h; cases h
    | yes d =>
      rw [h1] at h
      cases h2 : putsC g s with
      | no z => rw [h2] at h; cases h
      | yes ds =>
        rw [h2] at h
        cases h
        rw [List.length_cons, List.length_cons, putsC_len h2]
mutual
theorem putC_nice (hg : ∀ n, nm n → (g n).nice) : ∀ c : Ci, c.ok → ∀ d, putC g c = .yes d → d.nice
  | .eye n, h, d, e => by
    cases e
    exact hg n h
  | .node k ps, h, d, e => by
    unfold putC at e
    cases h1 : putsC g ps with
    | no z => rw [h1] at e; cases e
    | yes cs =>
      rw [h1] at e
      have hcs := putsC_nice hg ps h.2 cs h1
      have hl := putsC_len h1
      have hne : cs ≠ [] := fun z => by
        have h2 : 2 ≤ ps.length := h.1
        rw [z] at hl
        rw [← hl] at h2
        exact absurd h2 (by decide)
      have e : chk (mkC k cs) = .yes d := e
      unfold chk at e
      cases h3 : over (mkC k cs) with
      | some z => rw [h3] at e; cases e
      | none =>
        rw [h3] at e
        cases e
        exact ⟨mkC_norm hne fun c hc => (hcs c hc).1, (over_none.mp h3).1, (over_none.mp h3).2⟩
theorem putsC_nice (hg : ∀ n, nm n → (g n).nice) : ∀ ps : List Ci, oks ps → ∀ cs, putsC g ps = .yes cs → ∀ d ∈ cs, d.nice
  | [], _, cs, e, d, hd => by
    cases e
    cases hd
  | c :: s, h, cs, e, d, hd => by
    unfold putsC at e
    cases h1 : putC g c with
    | no z => rw [h1] at e; cases e
    | yes d1 =>
      rw [h1] at e
      cases h2 : putsC g s with
      | no z => rw [h2] at e; cases e
      | yes ds =>
        rw [h2] at e
        cases e
        rcases List.mem_cons.mp hd with rfl | hd
        · exact putC_nice hg c h.1 _ h1
        · exact putsC_nice hg s h.2 ds h2 d hd
end
mutual
theorem putC_mapC {f : Bool} {r : Str → Str} (R : Sw r) {g' : Str → Ci} (hg : ∀ n, nm n → (g n).nice) (h' : ∀ n, nm n → g' (r n) = mapC f r (g n)) : ∀ c : Ci, c.ok → putC g' (mapC f r c) = (putC g c).map (mapC f r)
  | .eye n, h => by
    show Rs.yes (g' (r n)) = Rs.yes (mapC f r (g n))
    rw [h' n h]
  | .node k ps, h => by
    have ih := putsC_mapC R hg h' ps h.2
    show (putsC g' (mapsC f r ps)).bind (fun cs => chk (mkC (k ^^ f) cs)) = Rs.map (mapC f r) ((putsC g ps).bind fun cs => chk (mkC k cs))
    rw [ih]
    cases h1 : putsC g ps with
    | no z => rfl
    | yes cs =>
      have hcs := putsC_nice hg ps h.2 cs h1
      show chk (mkC (k ^^ f) (mapsC f r cs)) = Rs.map (mapC f r) (chk (mkC k cs))
      rw [mkC_mapsC R fun c hc => norm_of (hcs c hc).1]
      unfold chk
      rw [over_mapC]
      cases over (mkC k cs) <;> rfl
theorem putsC_mapC {f : Bool} {r : Str → Str} (R : Sw r) {g' : Str → Ci} (hg : ∀ n, nm n → (g n).nice) (h' : ∀ n, nm n → g' (r n) = mapC f r (g n)) : ∀ ps : List Ci, oks ps → putsC g' (mapsC f r ps) = (putsC g ps).map (mapsC f r)
  | [], _ => rfl
  | c :: s, h => by
    have h1 := putC_mapC R hg h' c h.1
    have h2 := putsC_mapC R hg h' s h.2
    show ((putC g' (mapC f r c)).bind fun d => (putsC g' (mapsC f r s)).bind fun ds => .yes (d :: ds)) = Rs.map (mapsC f r) ((putC g c).bind fun d => (putsC g s).bind fun ds => .yes (d :: ds))
    rw [h1, h2]
    cases putC g c with
    | no z => rfl
    | yes d =>
      cases putsC g s with
      | no z => rfl
      | yes ds => rfl
end
mutual
theorem putC_eyes {r : Str → Str} (R : Sw r) (hg : ∀ n, nm n → g n = .eye (r n)) : ∀ c : Ci, c.nice → putC g c = .yes (mapC false r c)
  | .eye n, h => by
    show Rs.yes (g n) = _
    rw [hg n h.1]
    rfl
  | .node k ps, h => by
    have ih := putsC_eyes R hg ps fun c hc => parts_nice h (show c ∈ (Ci.node k ps).parts from hc)
    show ((putsC g ps).bind fun cs => chk (mkC k cs)) = _
    rw [ih]
    have h2 := mkC_mapsC (f := false) R (k := k) (cs := ps) fun c hc => norm_of (norms_mem.mp h.1.2.2.2 c hc)
    rw [mkC_self h.1] at h2
    have e : (k ^^ false) = k := by cases k <;> rfl
    rw [e] at h2
    show chk (mkC k (mapsC false r ps)) = _
    rw [h2]
    unfold chk
    rw [over_mapC, h.over]
theorem putsC_eyes {r : Str → Str} (R : Sw r) (hg : ∀ n, nm n → g n = .eye (r n)) : ∀ ps : List Ci, (∀ c ∈ ps, c.nice) → putsC g ps = .yes (mapsC false r ps)
  | [], _ => rfl
  | c :: s, h => by
    show ((putC g c).bind fun d => (putsC g s).bind fun ds => .yes (d :: ds)) = _
    rw [putC_eyes R hg c (h c List.mem_cons_self), putsC_eyes R hg s fun d hd => h d (List.mem_cons_of_mem _ hd)]
    rfl
end
mutual
theorem putC_none (hg : ∀ n, nm n → g n = .eye n) (c : Ci) (h : c.nice) : putC g c = .yes c := by
  rw [putC_eyes Sw.id hg c h]
  have : ∀ c : Ci, mapC false (fun n => n) c = c := mapC_id
  rw [this]
theorem mapC_id : ∀ c : Ci, mapC false (fun n => n) c = c
  | .eye n => rfl
  | .node k ps => by
    show Ci.node (k ^^ false) (mapsC false (fun n => n) ps) = _
    rw [mapsC_id ps]
    cases k <;> rfl
theorem mapsC_id : ∀ ps : List Ci, mapsC false (fun n => n) ps = ps
  | [] => rfl
  | c :: s => by
    show mapC false (fun n => n) c :: mapsC false (fun n => n) s = _
    rw [mapC_id c, mapsC_id s]
end
end
/-! ### the circles in a circle -/
mutual
def subs : Ci → List Ci
  | .eye n => [.eye n]
  | .node k ps => .node k ps :: subsL ps
def subsL : List Ci → List Ci
  | [] => []
  | c :: s => subs c ++ subsL s
end
theorem subs_eq (c : Ci) : subs c = c :: subsL c.parts := by cases c <;> rfl
theorem subsL_append : ∀ a b : List Ci, subsL (a ++ b) = subsL a ++ subsL b
  | [], b => rfl
  | c :: s, b => by
    show subs c ++ subsL (s ++ b) = (subs c ++ subsL s) ++ subsL b
    rw [subsL_append s b, List.append_assoc]
theorem pdd_append : ∀ acc xs ys : List Ci, dd acc (xs ++ ys) = dd (dd acc xs) ys
  | acc, [], ys => rfl
  | acc, c :: s, ys => by
    show (if acc.any (fun d => decide (d.str = c.str)) = true then dd acc (s ++ ys) else dd (acc ++ [c]) (s ++ ys)) = dd (if acc.any (fun d => decide (d.str = c.str)) = true then dd acc s else dd (acc ++ [c]) s) ys
    by_cases h : acc.any (fun d => decide (d.str = c.str)) = true
    · rw [if_pos h, if_pos h]
      exact pdd_append acc s ys
    · rw [if_neg h, if_neg h]
      exact pdd_append (acc ++ [c]) s ys
theorem pdd_keeps {z : Str} : ∀ {acc xs : List Ci}, acc.any (fun d => decide (d.str = z)) = true → (dd acc xs).any (fun d => decide (d.str = z)) = true
  | acc, [], h => h
  | acc, c :: s, h => by
    show (if acc.any (fun d => decide (d.str = c.str)) = true then dd acc s else dd (acc ++ [c]) s).any _ = true
    by_cases g : acc.any (fun d => decide (d.str = c.str)) = true
    · rw [if_pos g]; exact pdd_keeps h
    · rw [if_neg g]; exact pdd_keeps (by rw [List.any_append, h]; rfl)
theorem pdd_has {z : Str} : ∀ {acc xs : List Ci}, xs.any (fun d => decide (d.str = z)) = true → (dd acc xs).any (fun d => decide (d.str = z)) = true
  | acc, c :: s, h => by
    show (if acc.any (fun d => decide (d.str = c.str)) = true then dd acc s else dd (acc ++ [c]) s).any _ = true
    rw [List.any_cons] at h
    by_cases g : acc.any (fun d => decide (d.str = c.str)) = true
    · rw [if_pos g]
      by_cases e : c.str = z
      · exact pdd_keeps (by rw [← e]; exact g)
      · rw [decide_eq_false e, Bool.false_or] at h
        exact pdd_has h
    · rw [if_neg g]
      by_cases e : c.str = z
      · exact pdd_keeps (by rw [List.any_append, List.any_cons, decide_eq_true e, Bool.true_or, Bool.or_true])
      · rw [decide_eq_false e, Bool.false_or] at h
        exact pdd_has h
theorem pdd_dd : ∀ (acc b xs : List Ci), dd acc (dd b xs) = dd (dd acc b) xs
  | acc, b, [] => rfl
  | acc, b, x :: s => by
    show dd acc (if b.any (fun d => decide (d.str = x.str)) = true then dd b s else dd (b ++ [x]) s) = (if (dd acc b).any (fun d => decide (d.str = x.str)) = true then dd (dd acc b) s else dd (dd acc b ++ [x]) s)
    by_cases h : b.any (fun d => decide (d.str = x.str)) = true
    · rw [if_pos h, if_pos (pdd_has h)]
      exact pdd_dd acc b s
    · rw [if_neg h, pdd_dd acc (b ++ [x]) s, dd_snoc]
      by_cases g : (dd acc b).any (fun d => decide (d.str = x.str)) = true
      · rw [if_pos g, if_pos g]
      · rw [if_neg g, if_neg g]
theorem pdd_inner (acc xs ys : List Ci) : dd acc (xs ++ dd [] ys) = dd acc (xs ++ ys) := by
  rw [pdd_append, pdd_append, pdd_dd]
  rfl
def cin (c : Ci) : List Ci := dd [] (subs c)
def cinL (ps : List Ci) : List Ci := (ps.map cin).flatten
theorem cinL_dd : ∀ (ps acc : List Ci), dd acc (cinL ps) = dd acc (subsL ps)
  | [], acc => rfl
  | c :: s, acc => by
    show dd acc (cin c ++ cinL s) = dd acc (subs c ++ subsL s)
    rw [pdd_append, pdd_append, cinL_dd s]
    show dd (dd acc (dd [] (subs c))) _ = _
    rw [pdd_dd]
    rfl
theorem cinL_snoc {ps : List Ci} {i : Nat} {c : Ci} (h : ps[i]? = some c) : cinL (ps.take (i + 1)) = cinL (ps.take i) ++ cin c := by
  unfold cinL
  rw [List.take_add_one, h, List.map_append, List.flatten_append]
  simp
theorem cin_eq (c : Ci) : dd [] (c :: cinL c.parts) = cin c := by
  show dd [] ([c] ++ cinL c.parts) = dd [] (subs c)
  rw [pdd_append, cinL_dd, ← pdd_append, subs_eq]
  rfl
theorem cinL_len : ∀ ps : List Ci, (cinL ps).length ≤ (subsL ps).length
  | [] => Nat.le_refl _
  | c :: s => by
    show (cin c ++ cinL s).length ≤ (subs c ++ subsL s).length
    rw [List.length_append, List.length_append]
    have h1 := cinL_len s
    have h2 := dd_len (acc := []) (cs := subs c)
    rw [List.length_nil] at h2
    show (dd [] (subs c)).length + _ ≤ _
    omega
theorem cinL_take (ps : List Ci) (i : Nat) : (cinL (ps.take i)).length ≤ (cinL ps).length := by
  have h : ps = ps.take i ++ ps.drop i := (List.take_append_drop _ _).symm
  conv => rhs; rw [h]
  unfold cinL
  rw [List.map_append, List.flatten_append, List.length_append]
  exact Nat.le_add_right _ _
mutual
theorem subs_cnt : ∀ c : Ci, c.ok → (subs c).length + 1 ≤ 2 * c.size
  | .eye n, _ => Nat.le_refl 2
  | .node k ps, h => by
    have h1 := subsL_cnt ps h.2
    have h2 : 2 ≤ ps.length := h.1
    show (Ci.node k ps :: subsL ps).length + 1 ≤ 2 * sizes ps
    rw [List.length_cons]
    omega
theorem subsL_cnt : ∀ ps : List Ci, oks ps → (subsL ps).length + ps.length ≤ 2 * sizes ps
  | [], _ => Nat.zero_le _
  | c :: s, h => by
    have h1 := subs_cnt c h.1
    have h2 := subsL_cnt s h.2
    show (subs c ++ subsL s).length + (s.length + 1) ≤ 2 * (c.size + sizes s)
    rw [List.length_append]
    omega
end
theorem subsL_long : ∀ ps : List Ci, ps.length ≤ (subsL ps).length
  | [] => Nat.le_refl _
  | c :: s => by
    show s.length + 1 ≤ (subs c ++ subsL s).length
    have h := subsL_long s
    rw [List.length_append, subs_eq, List.length_cons]
    omega
theorem dd_one (acc : List Ci) (d : Ci) (r : List Ci) : dd acc (d :: r) = dd (dd acc [d]) r := pdd_append acc [d] r
theorem walk_dd (fcs tcs : List Ci) (d : Ci) : dd fcs (subsL (tcs ++ [d]).reverse) = dd (dd fcs [d]) (subsL (tcs ++ d.parts.reverse).reverse) := by
  rw [List.reverse_append, List.reverse_append, List.reverse_reverse]
  show dd fcs (subs d ++ subsL tcs.reverse) = _
  rw [subsL_append, subs_eq, List.cons_append, dd_one]
theorem walk_len (tcs : List Ci) (d : Ci) : (subsL (tcs ++ [d]).reverse).length = (subsL (tcs ++ d.parts.reverse).reverse).length + 1 := by
  rw [List.reverse_append, List.reverse_append, List.reverse_reverse]
  show (subs d ++ subsL tcs.reverse).length = _
  rw [subsL_append, subs_eq, List.cons_append, List.length_cons]
mutual
theorem subs_nice : ∀ c : Ci, c.nice → ∀ d ∈ subs c, d.nice
  | .eye n, h, d, hd => by
    rw [List.mem_singleton.mp hd]
    exact h
  | .node k ps, h, d, hd => by
    rcases List.mem_cons.mp hd with rfl | hd
    · exact h
    · exact subsL_nice ps (fun c hc => parts_nice h (show c ∈ (Ci.node k ps).parts from hc)) d hd
theorem subsL_nice : ∀ ps : List Ci, (∀ c ∈ ps, c.nice) → ∀ d ∈ subsL ps, d.nice
  | [], _, d, hd => by cases hd
  | c :: s, h, d, hd => by
    rcases List.mem_append.mp hd with hd | hd
    · exact subs_nice c (h c List.mem_cons_self) d hd
    · exact subsL_nice s (fun e he => h e (List.mem_cons_of_mem _ he)) d hd
end
theorem cin_nice {c d : Ci} (h : c.nice) (hd : d ∈ cin c) : d.nice := by
  rcases dd_sub hd with g | g
  · cases g
  · exact subs_nice c h d g
theorem cinL_nice {ps : List Ci} (h : ∀ c ∈ ps, c.nice) : ∀ d ∈ cinL ps, d.nice := fun d hd => by
  obtain ⟨l, hl, hd⟩ := List.mem_flatten.mp hd
  obtain ⟨c, hc, rfl⟩ := List.mem_map.mp hl
  exact cin_nice (h c hc) hd
theorem cinL_few {k : Bool} {ps : List Ci} (h : (Ci.node k ps).nice) : (cinL ps).length ≤ 120 := by
  have h1 := cinL_len ps
  have h2 := subsL_cnt ps (norm_of h.1).2
  have h3 : sizes ps ≤ 60 := h.2.1
  omega
end Eyes

set_option Elab.async false
set_option linter.all false
set_option maxRecDepth 100000
/-! The eyes of a circle: leaves, sorted lists of texts. -/
namespace Eyes
open PySem PySem.Spec PyProof.Rows L2 Evl TL
mutual
def Ci.leaves : Ci → List Str
  | .eye n => [n]
  | .node _ ps => leavess ps
def leavess : List Ci → List Str
  | [] => []
  | c :: r => c.leaves ++ leavess r
end
mutual
theorem Ci.leaves_len : ∀ c : Ci, c.leaves.length = c.size
  | .eye _ => rfl
  | .node _ ps => leavess_len ps
theorem leavess_len : ∀ ps : List Ci, (leavess ps).length = sizes ps
  | [] => rfl
  | c :: r => by
    show (c.leaves ++ leavess r).length = c.size + sizes r
    rw [List.length_append, Ci.leaves_len c, leavess_len r]
end
mutual
theorem Ci.leaves_ne : ∀ c : Ci, c.ok → c.leaves ≠ []
  | .eye _, _ => by intro h; cases h
  | .node _ ps, h => by
    intro e
    have h1 := Ci.leaves_len (.node true ps)
    have h2 := sizes_len ps h.2
    have h3 : 2 ≤ ps.length := h.1
    have e : leavess ps = [] := e
    have h1 : (leavess ps).length = sizes ps := h1
    rw [e, List.length_nil] at h1
    omega
end
theorem leavess_app : ∀ a b : List Ci, leavess (a ++ b) = leavess a ++ leavess b
  | [], _ => rfl
  | c :: r, b => by
    show c.leaves ++ leavess (r ++ b) = (c.leaves ++ leavess r) ++ leavess b
    rw [leavess_app r b, List.append_assoc]
theorem leavess_mem : ∀ {ps : List Ci} {y : Str}, y ∈ leavess ps ↔ ∃ c ∈ ps, y ∈ c.leaves
  | [], y => ⟨fun h => (by cases h), fun h => by
    obtain ⟨c, h, _⟩ := h
    cases h⟩
  | c :: r, y => by
    show y ∈ c.leaves ++ leavess r ↔ _
    rw [List.mem_append, leavess_mem (ps := r)]
    constructor
    · rintro (h | ⟨d, h1, h2⟩)
      · exact ⟨c, List.mem_cons_self, h⟩
      · exact ⟨d, List.mem_cons_of_mem _ h1, h2⟩
    · rintro ⟨d, h1, h2⟩
      rcases List.mem_cons.mp h1 with rfl | h1
      · exact .inl h2
      · exact .inr ⟨d, h1, h2⟩
theorem rising_le : ∀ {l : List Str} {p : Str}, risingS p l = true → ∀ y ∈ l, p.cps.toList ≤ y.cps.toList
  | x :: r, p, h, y, hy => by
    have h : (!ltCps x.cps.toList p.cps.toList && risingS x r) = true := h
    obtain ⟨h1, h2⟩ := Bool.and_eq_true_iff.mp h
    have h1 : p.cps.toList ≤ x.cps.toList := by
      rw [ltCps_eq] at h1
      exact List.not_lt.mp (by simpa using h1)
    rcases List.mem_cons.mp hy with rfl | hy
    · exact h1
    · exact List.le_trans h1 (rising_le h2 y hy)
theorem rising_sorted : ∀ {l : List Str} {p : Str}, risingS p l = true → sortedS l = true
  | [], _, _ => rfl
  | x :: r, p, h => by
    have h : (!ltCps x.cps.toList p.cps.toList && risingS x r) = true := h
    exact (Bool.and_eq_true_iff.mp h).2
theorem sorted_one : ∀ {a b : List Str}, sortedS a = true → sortedS b = true → a.Nodup → b.Nodup → (∀ y, y ∈ a ↔ y ∈ b) → a = b
  | [], [], _, _, _, _, _ => rfl
  | [], y :: t, _, _, _, _, h => absurd ((h y).2 List.mem_cons_self) (by simp)
  | x :: r, [], _, _, _, _, h => absurd ((h x).1 List.mem_cons_self) (by simp)
  | x :: r, y :: t, h1, h2, n1, n2, h => by
    obtain ⟨nx, nr⟩ := List.nodup_cons.mp n1
    obtain ⟨ny, nt⟩ := List.nodup_cons.mp n2
    have e : x = y := by
      by_cases he : x = y
      · exact he
      have a1 : y ∈ r := by
        rcases List.mem_cons.mp ((h y).2 List.mem_cons_self) with z | z
        · exact absurd z.symm he
        · exact z
      have a2 : x ∈ t := by
        rcases List.mem_cons.mp ((h x).1 List.mem_cons_self) with z | z
        · exact absurd z he
        · exact z
      have l1 := rising_le (show risingS x r = true from h1) y a1
      have l2 := rising_le (show risingS y t = true from h2) x a2
      exact ext_tl (List.le_antisymm l1 l2)
    subst e
    have e2 := sorted_one (a := r) (b := t) (rising_sorted (show risingS x r = true from h1)) (rising_sorted (show risingS x t = true from h2)) nr nt fun z => by
      constructor
      · intro hz
        rcases List.mem_cons.mp ((h z).1 (List.mem_cons_of_mem _ hz)) with q | q
        · exact absurd (q ▸ hz) nx
        · exact q
      · intro hz
        rcases List.mem_cons.mp ((h z).2 (List.mem_cons_of_mem _ hz)) with q | q
        · exact absurd (q ▸ hz) ny
        · exact q
    rw [e2]
def IsEyes (c : Ci) (ys : List Str) : Prop := sortedS ys = true ∧ ys.Nodup ∧ ∀ y, y ∈ ys ↔ y ∈ c.leaves
theorem eyes_one {c : Ci} {ys zs : List Str} (h1 : IsEyes c ys) (h2 : IsEyes c zs) : ys = zs := sorted_one h1.1 h2.1 h1.2.1 h2.2.1 fun y => (h1.2.2 y).trans (h2.2.2 y).symm
theorem nodup_le {α : Type} [DecidableEq α] : ∀ {a b : List α}, a.Nodup → (∀ y ∈ a, y ∈ b) → a.length ≤ b.length
  | [], _, _, _ => Nat.zero_le _
  | x :: r, b, n, h => by
    obtain ⟨nx, nr⟩ := List.nodup_cons.mp n
    have hx : x ∈ b := h x List.mem_cons_self
    have := nodup_le (a := r) (b := b.erase x) nr fun y hy => (List.mem_erase_of_ne (by intro e; exact nx (e ▸ hy))).mpr (h y (List.mem_cons_of_mem _ hy))
    rw [List.length_erase_of_mem hx] at this
    have : 0 < b.length := List.length_pos_of_mem hx
    rw [List.length_cons]
    omega
theorem IsEyes.len {c : Ci} {ys : List Str} (h : IsEyes c ys) : ys.length ≤ c.size := by
  rw [← Ci.leaves_len]
  exact nodup_le h.2.1 fun y hy => (h.2.2 y).1 hy
theorem IsEyes.ne {c : Ci} {ys : List Str} (h : IsEyes c ys) (hc : c.ok) : ys ≠ [] := by
  intro e
  subst e
  have := Ci.leaves_ne c hc
  cases hl : c.leaves with
  | nil => exact this hl
  | cons y r => exact absurd ((h.2.2 y).2 (by rw [hl]; exact List.mem_cons_self)) (by simp)
end Eyes

set_option Elab.async false
set_option linter.all false
set_option maxRecDepth 100000
/-! Joining in steps: what is joined may be joined again. -/
namespace Eyes
open PySem PySem.Spec PyProof.Rows L2 Evl TL
theorem dd_app : ∀ {a x y : List Ci}, dd a (x ++ y) = dd (dd a x) y
  | a, [], y => rfl
  | a, c :: r, y => by
    have e : ∀ z : List Ci, dd a (c :: z) = if a.any (fun d => decide (d.str = c.str)) = true then dd a z else dd (a ++ [c]) z := fun z => rfl
    show dd a (c :: (r ++ y)) = _
    rw [e, e]
    by_cases h : a.any (fun d => decide (d.str = c.str)) = true
    · rw [if_pos h, if_pos h]
      exact dd_app
    · rw [if_neg h, if_neg h]
      exact dd_app
theorem any_dd {s : Str} : ∀ {a x : List Ci}, (dd a x).any (fun d => decide (d.str = s)) = (a.any (fun d => decide (d.str = s)) || x.any fun d => decide (d.str = s))
  | a, [] => by
    show a.any _ = _
    simp
  | a, c :: r => by
    unfold dd
    by_cases h : a.any (fun d => decide (d.str = c.str)) = true
    · rw [if_pos h, any_dd (a := a) (x := r), List.any_cons]
      by_cases e : c.str = s
      · subst e
        rw [h]
        rfl
      · rw [decide_eq_false e, Bool.false_or]
    · rw [if_neg h, any_dd (a := a ++ [c]) (x := r), List.any_append, List.any_cons, List.any_cons, List.any_nil, Bool.or_false, Bool.or_assoc]
theorem dd_dd : ∀ {x a b : List Ci}, dd a (dd b x) = dd (dd a b) x
  | [], a, b => rfl
  | c :: r, a, b => by
    by_cases h : b.any (fun d => decide (d.str = c.str)) = true
    · have h2 : (dd a b).any (fun d => decide (d.str = c.str)) = true := by rw [any_dd, h, Bool.or_true]
      have e1 : dd b (c :: r) = dd b r := if_pos h
      have e2 : dd (dd a b) (c :: r) = dd (dd a b) r := if_pos h2
      rw [e1, e2]
      exact dd_dd
    · have e1 : dd b (c :: r) = dd (b ++ [c]) r := if_neg h
      rw [e1, dd_dd (a := a) (b := b ++ [c]), dd_app (a := a) (x := b)]
      exact (dd_app (a := dd a b) (x := [c]) (y := r)).symm
theorem dd_left {x y : List Ci} : dd [] (dd [] x ++ y) = dd [] (x ++ y) := by
  rw [dd_app, dd_dd, dd_app]
  rfl
theorem dd_right {x y : List Ci} : dd [] (y ++ dd [] x) = dd [] (y ++ x) := by
  rw [dd_app, dd_dd, dd_app]
  rfl
theorem dd_ok {cs : List Ci} (h : ∀ c ∈ cs, c.ok) : ∀ c ∈ dd [] cs, c.ok := fun c hc => by
  rcases dd_sub hc with g | g
  · cases g
  · exact h c g
theorem dd_mem {x : Ci} : ∀ {a cs : List Ci}, (∀ c ∈ a, c.ok) → (∀ c ∈ cs, c.ok) → x ∈ a ∨ x ∈ cs → x ∈ dd a cs
  | a, [], _, _, h => h.elim id fun z => by cases z
  | a, c :: r, h1, h2, h => by
    have hc := h2 c List.mem_cons_self
    have hr : ∀ d ∈ r, d.ok := fun d hd => h2 d (List.mem_cons_of_mem _ hd)
    unfold dd
    by_cases g : a.any (fun d => decide (d.str = c.str)) = true
    · rw [if_pos g]
      refine dd_mem h1 hr ?_
      rcases h with h | h
      · exact .inl h
      · rcases List.mem_cons.mp h with rfl | h
        · exact .inl ((any_str h1 hc).mp g)
        · exact .inr h
    · rw [if_neg g]
      refine dd_mem (fun d hd => ?_) hr ?_
      · rcases List.mem_append.mp hd with hd | hd
        · exact h1 d hd
        · rw [List.mem_singleton.mp hd]
          exact hc
      · rcases h with h | h
        · exact .inl (List.mem_append_left _ h)
        · rcases List.mem_cons.mp h with rfl | h
          · exact .inl (List.mem_append_right _ List.mem_cons_self)
          · exact .inr h
theorem flat_mem {k : Bool} {d : Ci} : ∀ {cs : List Ci}, d ∈ flat k cs ↔ ∃ c ∈ cs, d ∈ (if c.isK k = true then c.parts else [c])
  | [] => ⟨fun h => (by cases h), fun h => by
    obtain ⟨c, h, _⟩ := h
    cases h⟩
  | c :: r => by
    show d ∈ _ ++ flat k r ↔ _
    rw [List.mem_append, flat_mem (cs := r)]
    constructor
    · rintro (h | ⟨e, h1, h2⟩)
      · exact ⟨c, List.mem_cons_self, h⟩
      · exact ⟨e, List.mem_cons_of_mem _ h1, h2⟩
    · rintro ⟨e, h1, h2⟩
      rcases List.mem_cons.mp h1 with rfl | h1
      · exact .inl h2
      · exact .inr ⟨e, h1, h2⟩
section
variable {k : Bool}
theorem pts_mem {cs : List Ci} (h : ∀ c ∈ cs, c.norm) {d : Ci} : d ∈ pts k cs ↔ d ∈ flat k cs := by
  have hf := flat_ok (k := k) fun c hc => norm_of (h c hc)
  constructor
  · intro g
    rcases dd_sub g with z | z
    · cases z
    · exact z
  · intro g
    exact dd_mem (fun c hc => by cases hc) hf (.inr g)
theorem pts_nodup {cs : List Ci} (h : ∀ c ∈ cs, c.norm) : (pts k cs).Nodup := dd_is_nodup (fun c hc => by cases hc) (flat_ok (k := k) fun c hc => norm_of (h c hc)) List.nodup_nil
theorem pts_isK {cs : List Ci} (h : ∀ c ∈ cs, c.norm) : ∀ d ∈ pts k cs, d.isK k = false := fun d hd => (flat_norm h d ((pts_mem h).mp hd)).2
theorem flat_mk {cs : List Ci} (h : ∀ c ∈ cs, c.norm) : flat k [mkC k cs] = pts k cs := by
  by_cases h1 : (pts k cs).length = 1
  · obtain ⟨d, hd⟩ := List.length_eq_one_iff.mp h1
    rw [mkC_one hd, hd]
    have e := pts_isK h d (by rw [hd]; exact List.mem_cons_self)
    show (if d.isK k = true then d.parts else [d]) ++ [] = [d]
    rw [e]
    rfl
  · rw [mkC_more h1]
    show (if (k == k) = true then pts k cs else [_]) ++ [] = pts k cs
    rw [beq_self_eq_true, if_pos rfl, List.append_nil]
theorem mk_left {as bs : List Ci} (h : ∀ c ∈ as, c.norm) : mkC k (mkC k as :: bs) = mkC k (as ++ bs) := by
  have e : flat k (mkC k as :: bs) = pts k as ++ flat k bs := by
    rw [show mkC k as :: bs = [mkC k as] ++ bs from rfl, flat_append, flat_mk h]
  show wrapK k (dd [] (flat k (mkC k as :: bs))) = wrapK k (dd [] (flat k (as ++ bs)))
  rw [e, flat_append]
  exact congrArg _ dd_left
theorem mk_right {as bs : List Ci} (h : ∀ c ∈ as, c.norm) : mkC k (bs ++ [mkC k as]) = mkC k (bs ++ as) := by
  have e : flat k (bs ++ [mkC k as]) = flat k bs ++ pts k as := by
    rw [flat_append, flat_mk h]
  show wrapK k (dd [] (flat k (bs ++ [mkC k as]))) = wrapK k (dd [] (flat k (bs ++ as)))
  rw [e, flat_append]
  exact congrArg _ dd_right
theorem mk_one {c : Ci} (h : c.norm) : mkC k [c] = c := by
  by_cases g : c.isK k = true
  · cases c with
    | eye n => cases g
    | node j ps =>
      have g : (j == k) = true := g
      have e : j = k := by simpa using g
      subst e
      have hp : pts j [Ci.node j ps] = ps := by
        show dd [] ((if (j == j) = true then ps else [Ci.node j ps]) ++ []) = ps
        rw [if_pos g, List.append_nil]
        have h2 := dd_nodup (acc := []) (cs := ps) (fun c hc => by cases hc) (oks_mem.mp (norm_of h).2) (by rw [List.nil_append]; exact h.2.2.1)
        rw [h2, List.nil_append]
      have h2 : 2 ≤ ps.length := h.1
      rw [mkC_more (by rw [hp]; omega), hp]
  · have hp : pts k [c] = [c] := by
      show dd [] ((if c.isK k = true then c.parts else [c]) ++ []) = [c]
      rw [if_neg g]
      rfl
    exact mkC_one hp
theorem mkC_sz (cs : List Ci) : (mkC k cs).size = sizes (pts k cs) := by
  by_cases h1 : (pts k cs).length = 1
  · obtain ⟨c, hc⟩ := List.length_eq_one_iff.mp h1
    rw [mkC_one hc, hc]
    exact (Nat.add_zero _).symm
  · rw [mkC_more h1]
    rfl
open Classical in
theorem sizes_erase {x : Ci} : ∀ {b : List Ci}, x ∈ b → sizes (b.erase x) + x.size = sizes b
  | y :: r, h => by
    by_cases e : y = x
    · subst e
      rw [List.erase_cons_head]
      exact Nat.add_comm _ _
    · rw [List.erase_cons_tail (by simpa using e)]
      have h2 : x ∈ r := (List.mem_cons.mp h).resolve_left fun z => e z.symm
      have := sizes_erase h2
      show y.size + sizes (r.erase x) + x.size = y.size + sizes r
      omega
open Classical in
theorem sub_sizes : ∀ {a b : List Ci}, a.Nodup → (∀ y ∈ a, y ∈ b) → sizes a ≤ sizes b
  | [], b, _, _ => Nat.zero_le _
  | x :: r, b, n, h => by
    obtain ⟨nx, nr⟩ := List.nodup_cons.mp n
    have hx : x ∈ b := h x List.mem_cons_self
    have h1 := sub_sizes (a := r) (b := b.erase x) nr fun y hy => (List.mem_erase_of_ne (by intro e; exact nx (e ▸ hy))).mpr (h y (List.mem_cons_of_mem _ hy))
    have h2 := sizes_erase hx
    show x.size + sizes r ≤ sizes b
    omega
theorem sub_depths {a b : List Ci} (h : ∀ y ∈ a, y ∈ b) : depths a ≤ depths b := depths_all fun c hc => depths_le (h c hc)
open Classical in
theorem mk_sub {as bs : List Ci} (h : ∀ c ∈ bs, c.norm) (hs : ∀ c ∈ as, c ∈ bs) (hne : as ≠ []) : (mkC k as).size ≤ (mkC k bs).size ∧ (mkC k as).depth ≤ (mkC k bs).depth := by
  have ha : ∀ c ∈ as, c.norm := fun c hc => h c (hs c hc)
  have sub : ∀ d ∈ pts k as, d ∈ pts k bs := fun d hd => by
    rw [pts_mem h]
    obtain ⟨c, hc, hd⟩ := flat_mem.mp ((pts_mem ha).mp hd)
    exact flat_mem.mpr ⟨c, hs c hc, hd⟩
  have hn := pts_nodup (k := k) ha
  have h1 := sub_sizes hn sub
  have h2 := sub_depths sub
  have h3 : (pts k as).length ≤ (pts k bs).length := nodup_le hn sub
  have low : depths (pts k bs) ≤ (mkC k bs).depth := by
    by_cases g : (pts k bs).length = 1
    · obtain ⟨c, hc⟩ := List.length_eq_one_iff.mp g
      rw [mkC_one hc, hc]
      show max c.depth 0 ≤ c.depth
      omega
    · rw [mkC_more g]
      show _ ≤ 1 + depths (pts k bs)
      omega
  have h0 : (pts k as).length ≠ 0 := fun z => dd_ne (flat_ne (k := k) (fun d hd => norm_of (ha d hd)) hne) (List.length_eq_zero_iff.mp z)
  refine ⟨by rw [mkC_sz, mkC_sz]; exact h1, ?_⟩
  by_cases g : (pts k as).length = 1
  · obtain ⟨c, hc⟩ := List.length_eq_one_iff.mp g
    rw [mkC_one hc]
    have : c.depth ≤ depths (pts k as) := depths_le (by rw [hc]; exact List.mem_cons_self)
    omega
  · rw [mkC_more g]
    show 1 + depths (pts k as) ≤ _
    rw [mkC_more (by omega)]
    show _ ≤ 1 + depths (pts k bs)
    omega
theorem norm_fine {c : Ci} (h : c.norm) (hs : c.size ≤ 60) : c.fine := ⟨norm_of h, hs⟩
theorem fold_left {cs : List Ci} {c : Ci} {j : Nat} (h : ∀ c ∈ cs, c.norm) (h60 : ∀ c ∈ cs, c.size ≤ 60) (hs : (mkC k cs).size ≤ 60) (hd : (mkC k cs).depth ≤ 20) (h1 : 1 ≤ j) (hc : cs[j]? = some c) :
    mkC k [mkC k (cs.take j), c] = mkC k (cs.take (j + 1)) ∧ Good k [mkC k (cs.take j), c] := by
  have hj : j < cs.length := (List.getElem?_eq_some_iff.mp hc).1
  have hm : c ∈ cs := List.mem_of_getElem? hc
  have hcs : cs ≠ [] := fun e => by rw [e] at hm; cases hm
  have e : mkC k [mkC k (cs.take j), c] = mkC k (cs.take (j + 1)) := by
    rw [List.take_add_one, hc]
    exact mk_left fun d hd => h d (List.mem_of_mem_take hd)
  have sub : ∀ i, 1 ≤ i → (mkC k (cs.take i)).size ≤ 60 ∧ (mkC k (cs.take i)).depth ≤ 20 ∧ (mkC k (cs.take i)).norm := fun i hi => by
    have hne : cs.take i ≠ [] := fun e => by
      rcases List.take_eq_nil_iff.mp e with z | z
      · omega
      · exact hcs z
    obtain ⟨a1, a2⟩ := mk_sub (k := k) (as := cs.take i) h (fun c hc => List.mem_of_mem_take hc) hne
    exact ⟨by omega, by omega, mkC_norm hne fun d hd => h d (List.mem_of_mem_take hd)⟩
  obtain ⟨b1, b2, b3⟩ := sub j h1
  obtain ⟨c1, c2, c3⟩ := sub (j + 1) (by omega)
  refine ⟨e, by simp, fun d hd => ?_, by show 2 ≤ 1400; decide, by rw [e]; exact c1, by rw [e]; exact c2⟩
  rcases List.mem_cons.mp hd with rfl | hd
  · exact norm_fine b3 b1
  · rw [List.mem_singleton.mp hd]
    exact norm_fine (h c hm) (h60 c hm)
theorem fold_right {cs : List Ci} {c : Ci} {j : Nat} (h : ∀ c ∈ cs, c.norm) (h60 : ∀ c ∈ cs, c.size ≤ 60) (hs : (mkC k cs).size ≤ 60) (hd : (mkC k cs).depth ≤ 20) (h1 : j + 1 < cs.length) (hc : cs[j]? = some c) :
    mkC k [c, mkC k (cs.drop (j + 1))] = mkC k (cs.drop j) ∧ Good k [c, mkC k (cs.drop (j + 1))] := by
  have hj : j < cs.length := by omega
  have hm : c ∈ cs := List.mem_of_getElem? hc
  have ed : cs.drop j = c :: cs.drop (j + 1) := by
    rw [List.drop_eq_getElem_cons hj, (List.getElem?_eq_some_iff.mp hc).2]
  have e : mkC k [c, mkC k (cs.drop (j + 1))] = mkC k (cs.drop j) := by
    rw [ed]
    exact mk_right (bs := [c]) fun d hd => h d (List.mem_of_mem_drop hd)
  have sub : ∀ i, i < cs.length → (mkC k (cs.drop i)).size ≤ 60 ∧ (mkC k (cs.drop i)).depth ≤ 20 ∧ (mkC k (cs.drop i)).norm := fun i hi => by
    have hne : cs.drop i ≠ [] := fun e => by
      have := List.drop_eq_nil_iff.mp e
      omega
    obtain ⟨a1, a2⟩ := mk_sub (k := k) (as := cs.drop i) h (fun c hc => List.mem_of_mem_drop hc) hne
    exact ⟨by omega, by omega, mkC_norm hne fun d hd => h d (List.mem_of_mem_drop hd)⟩
  obtain ⟨b1, b2, b3⟩ := sub (j + 1) h1
  obtain ⟨c1, c2, c3⟩ := sub j hj
  refine ⟨e, by simp, fun d hd => ?_, by show 2 ≤ 1400; decide, by rw [e]; exact c1, by rw [e]; exact c2⟩
  rcases List.mem_cons.mp hd with rfl | hd
  · exact norm_fine (h d hm) (h60 d hm)
  · rw [List.mem_singleton.mp hd]
    exact norm_fine b3 b1
end
end Eyes

set_option Elab.async false
set_option linter.all false
set_option maxRecDepth 100000
set_option maxHeartbeats 4000000
/-! Circle texts: how they are read, the texts of untidied circles, what they grow to. -/
namespace Eyes
open PySem PySem.Spec PyProof.Rows L2 Evl TL
/-! ### the reader -/
inductive Got (α : Type) where
  | bad (p : Nat)
  | ok (a : α) (j : Nat)
def isL (x : Nat) : Bool := decide (97 ≤ x) && decide (x ≤ 122)
def nmAt (r : List Nat) : List Nat := (r.takeWhile isL).take 6
def sgnN (k : Bool) : Nat := if k = true then 38 else 124
def nameR (xs : List Nat) (i : Nat) : Got Ci := if nmAt (xs.drop i) = [] then .bad i else .ok (.eye ⟨(nmAt (xs.drop i)).toArray⟩) (i + (nmAt (xs.drop i)).length)
def moreR (item : Nat → Got Ci) (xs : List Nat) (k : Bool) : Nat → List Ci → Nat → Got (List Ci)
  | 0, acc, i => .ok acc i
  | f + 1, acc, i => if xs[i]? = some 32 then (if xs[i + 1]? = some (sgnN k) then (if xs[i + 2]? = some 32 then (match item (i + 3) with
      | .bad p => .bad p
      | .ok c j => moreR item xs k f (acc ++ [c]) j) else .bad (i + 2)) else .bad (i + 1)) else .ok acc i
def finR (k : Bool) : Got (List Ci) → Got Ci
  | .bad p => .bad p
  | .ok cs j => .ok (.node k cs) j
def signR (xs : List Nat) (j : Nat) : Option Bool := if xs[j]? = some 38 then some true else if xs[j]? = some 124 then some false else none
def rowR (item : Nat → Got Ci) (xs : List Nat) (i : Nat) : Got Ci := match item i with
  | .bad p => .bad p
  | .ok c j => if xs[j]? = some 32 then (match signR xs (j + 1) with
      | none => .bad (j + 1)
      | some k => finR k (moreR item xs k (xs.length + 1) [c] j)) else .ok c j
def itemR (xs : List Nat) : Nat → Nat → Got Ci
  | 0, i => nameR xs i
  | d + 1, i => if xs[i]? = some 40 then (match rowR (itemR xs d) xs (i + 1) with
      | .bad p => .bad p
      | .ok c j => if xs[j]? = some 41 then .ok c (j + 1) else .bad j) else nameR xs i
def readR (xs : List Nat) : Got Ci := match rowR (itemR xs 20) xs 0 with
  | .bad p => .bad p
  | .ok c j => if j < xs.length then .bad j else .ok c j
/-! ### texts of untidied circles, within so many parentheses -/
mutual
inductive IT : Nat → Ci → List Nat → Prop
  | name {d : Nat} {n : Str} : nm n → IT d (.eye n) (tl n)
  | par {d : Nat} {c : Ci} {s : List Nat} : RT d c s → IT (d + 1) c (40 :: (s ++ [41]))
inductive RT : Nat → Ci → List Nat → Prop
  | one {d : Nat} {c : Ci} {s : List Nat} : IT d c s → RT d c s
  | row {d : Nat} {k : Bool} {c : Ci} {ps : List Ci} {s : List Nat} {ss : List (List Nat)} : IT d c s → ITl d ps ss → ps ≠ [] → RT d (.node k (c :: ps)) (joinL (tl (sepS k)) (s :: ss))
inductive ITl : Nat → List Ci → List (List Nat) → Prop
  | nil {d : Nat} : ITl d [] []
  | cons {d : Nat} {c : Ci} {ps : List Ci} {s : List Nat} {ss : List (List Nat)} : IT d c s → ITl d ps ss → ITl d (c :: ps) (s :: ss)
end
def tailJ (k : Bool) : List (List Nat) → List Nat
  | [] => []
  | s :: ss => 32 :: sgnN k :: 32 :: (s ++ tailJ k ss)
theorem joinL_tail (k : Bool) : ∀ (s : List Nat) (ss : List (List Nat)), joinL (tl (sepS k)) (s :: ss) = s ++ tailJ k ss
  | s, [] => (List.append_nil s).symm
  | s, t :: ss => by
    rw [join_cons, joinL_tail k t ss]
    rfl
theorem isL_iff {x : Nat} : isL x = true ↔ 97 ≤ x ∧ x ≤ 122 := by
  unfold isL
  simp
theorem dropAt {xs a b : List Nat} {i : Nat} (h : xs.drop i = a ++ b) : xs.drop (i + a.length) = b := by
  rw [← List.drop_drop, h, List.drop_left]
theorem getAt {xs r : List Nat} {i : Nat} (h : xs.drop i = r) : xs[i]? = r.head? := by
  rw [← h, List.head?_drop]
theorem takeW {p : Nat → Bool} : ∀ {a b : List Nat}, (∀ x ∈ a, p x = true) → (∀ x, b.head? = some x → p x = false) → (a ++ b).takeWhile p = a
  | [], [], _, _ => rfl
  | [], x :: b, _, h => by
    rw [List.nil_append, List.takeWhile_cons_of_neg (by rw [h x rfl]; exact Bool.false_ne_true)]
  | x :: a, b, h1, h2 => by
    rw [List.cons_append, List.takeWhile_cons_of_pos (h1 x List.mem_cons_self), takeW (fun y hy => h1 y (List.mem_cons_of_mem _ hy)) h2]
theorem nmAt_name {n : Str} (h : nm n) {post : List Nat} (hp : ∀ x, post.head? = some x → isL x = false) : nmAt (tl n ++ post) = tl n := by
  unfold nmAt
  rw [takeW (fun x hx => isL_iff.mpr (h.2.2 x hx)) hp, List.take_of_length_le]
  rw [← len_tl]
  exact h.2.1
theorem nameR_name {n : Str} (h : nm n) {xs post : List Nat} {i : Nat} (hx : xs.drop i = tl n ++ post) (hp : ∀ x, post.head? = some x → isL x = false) : nameR xs i = .ok (.eye n) (i + (tl n).length) := by
  unfold nameR
  have e0 : ¬ tl n = [] := fun e => by
    have := h.1
    rw [len_tl, e] at this
    exact absurd this (by decide)
  rw [hx, nmAt_name h hp, if_neg e0]
theorem nm_head {n : Str} (h : nm n) (post : List Nat) : ∃ x, (tl n ++ post).head? = some x ∧ 97 ≤ x ∧ x ≤ 122 := by
  cases e : tl n with
  | nil =>
    have := h.1
    rw [len_tl, e] at this
    exact absurd this (by decide)
  | cons x r => exact ⟨x, rfl, h.2.2 x (by rw [e]; exact List.mem_cons_self)⟩
mutual
theorem item_parse {xs : List Nat} : ∀ {d : Nat} {c : Ci} {s : List Nat}, IT d c s → ∀ {post : List Nat} {i : Nat}, xs.drop i = s ++ post → (∀ x, post.head? = some x → isL x = false) → itemR xs d i = .ok c (i + s.length)
  | d, _, _, .name (n := n) h, post, i, hx, hp => by
    cases d with
    | zero => exact nameR_name h hx hp
    | succ d =>
      obtain ⟨x, h1, h2, h3⟩ := nm_head h post
      unfold itemR
      rw [getAt hx, h1, if_neg (fun e => by injection e with e; omega)]
      exact nameR_name h hx hp
  | _, c, _, .par (d := d) (s := s) h, post, i, hx, hp => by
    have hx1 : xs.drop (i + 1) = s ++ (41 :: post) := by
      have := dropAt (a := [40]) (b := s ++ (41 :: post)) (xs := xs) (i := i) (by rw [hx]; simp)
      exact this
    have h1 := row_parse h hx1 (fun x e => by cases e; exact ⟨rfl, by decide⟩)
    have h2 : xs[i + 1 + s.length]? = some 41 := getAt (dropAt hx1)
    have h0 : xs[i]? = some 40 := getAt hx
    unfold itemR
    rw [h0, if_pos rfl, h1]
    show (if xs[i + 1 + s.length]? = some 41 then Got.ok c (i + 1 + s.length + 1) else _) = _
    rw [h2, if_pos rfl]
    refine congrArg (Got.ok c) ?_
    rw [List.length_cons, List.length_append]
    show i + 1 + s.length + 1 = i + (s.length + 1 + 1)
    omega
theorem row_parse {xs : List Nat} : ∀ {d : Nat} {c : Ci} {s : List Nat}, RT d c s → ∀ {post : List Nat} {i : Nat}, xs.drop i = s ++ post → (∀ x, post.head? = some x → isL x = false ∧ x ≠ 32) → rowR (itemR xs d) xs i = .ok c (i + s.length)
  | d, c, s, .one h, post, i, hx, hp => by
    have h1 := item_parse h hx fun x e => (hp x e).1
    unfold rowR
    rw [h1]
    show (if xs[i + s.length]? = some 32 then _ else _) = _
    rw [getAt (dropAt hx), if_neg fun e => (hp 32 e).2 rfl]
  | d, _, _, .row (k := k) (c := c) (ps := ps) (s := s) (ss := ss) h hl hne, post, i, hx, hp => by
    rw [joinL_tail, List.append_assoc] at hx
    cases ss with
    | nil =>
      cases hl
      exact absurd rfl hne
    | cons s2 ss =>
      have h1 := item_parse h hx fun x e => by cases e; rfl
      have hx1 := dropAt hx
      have h2 : xs[i + s.length]? = some 32 := getAt hx1
      have h3 := getAt (dropAt (a := [32]) (b := sgnN k :: 32 :: (s2 ++ tailJ k ss) ++ post) hx1)
      have h4 := more_parse (k := k) hl hx1 hp (f := xs.length + 1) (by omega) [c]
      unfold rowR
      rw [h1]
      show (if xs[i + s.length]? = some 32 then (match signR xs (i + s.length + 1) with | none => _ | some k => _) else _) = _
      rw [h2, if_pos rfl]
      have h5 : signR xs (i + s.length + 1) = some k := by
        unfold signR
        have h3 : xs[i + s.length + 1]? = some (sgnN k) := h3
        rw [h3]
        cases k <;> rfl
      rw [h5]
      show finR k (moreR (itemR xs d) xs k (xs.length + 1) [c] (i + s.length)) = _
      rw [h4]
      show Got.ok (Ci.node k ([c] ++ ps)) _ = _
      rw [joinL_tail, List.length_append, Nat.add_assoc]
      rfl
theorem more_parse {xs : List Nat} {k : Bool} : ∀ {d : Nat} {ps : List Ci} {ss : List (List Nat)}, ITl d ps ss → ∀ {post : List Nat} {i : Nat}, xs.drop i = tailJ k ss ++ post → (∀ x, post.head? = some x → isL x = false ∧ x ≠ 32) → ∀ {f : Nat}, xs.length < i + f → ∀ acc : List Ci, moreR (itemR xs d) xs k f acc i = .ok (acc ++ ps) (i + (tailJ k ss).length)
  | d, _, _, .nil, post, i, hx, hp, f, hf, acc => by
    rw [List.append_nil]
    cases f with
    | zero => rfl
    | succ f =>
      have h0 : xs[i]? = post.head? := getAt hx
      unfold moreR
      rw [h0, if_neg fun e => (hp 32 e).2 rfl]
      rfl
  | d, _, _, .cons (c := c) (ps := ps) (s := s) (ss := ss) h hl, post, i, hx, hp, f, hf, acc => by
    have hx0 : xs.drop i = 32 :: sgnN k :: 32 :: (s ++ (tailJ k ss ++ post)) := by
      rw [hx]
      show 32 :: sgnN k :: 32 :: ((s ++ tailJ k ss) ++ post) = _
      rw [List.append_assoc]
    have h0 : xs[i]? = some 32 := getAt hx0
    have h1 := getAt (dropAt (a := [32]) (b := sgnN k :: 32 :: (s ++ (tailJ k ss ++ post))) hx0)
    have h2 := getAt (dropAt (a := [32, sgnN k]) (b := 32 :: (s ++ (tailJ k ss ++ post))) hx0)
    have hx3 := dropAt (a := [32, sgnN k, 32]) (b := s ++ (tailJ k ss ++ post)) hx0
    have h1 : xs[i + 1]? = some (sgnN k) := h1
    have h2 : xs[i + 2]? = some 32 := h2
    have hx3 : xs.drop (i + 3) = s ++ (tailJ k ss ++ post) := hx3
    cases f with
    | zero =>
      have := (List.getElem?_eq_some_iff.mp h0).1
      omega
    | succ f =>
      have h4 := item_parse h hx3 fun x e => by
        cases ss with
        | nil =>
          cases hl
          exact (hp x e).1
        | cons s2 ss =>
          cases e
          rfl
      have h5 := more_parse (k := k) hl (dropAt hx3) hp (f := f) (by omega) (acc ++ [c])
      unfold moreR
      rw [h0, if_pos rfl, h1, if_pos rfl, h2, if_pos rfl, h4]
      show moreR (itemR xs d) xs k f (acc ++ [c]) (i + 3 + s.length) = _
      rw [h5, List.append_assoc]
      refine congrArg (Got.ok _) ?_
      show _ = i + (32 :: sgnN k :: 32 :: (s ++ tailJ k ss)).length
      rw [List.length_cons, List.length_cons, List.length_cons, List.length_append]
      omega
end
theorem read_whole {c : Ci} {s : List Nat} (h : RT 20 c s) : readR s = .ok c s.length := by
  have h1 := row_parse (xs := s) (post := []) (i := 0) h (by rw [List.append_nil]; rfl) (fun x e => by cases e)
  unfold readR
  rw [h1]
  show (if 0 + s.length < s.length then _ else _) = _
  rw [Nat.zero_add, if_neg (Nat.lt_irrefl _)]
mutual
theorem IT.mono : ∀ {d : Nat} {c : Ci} {s : List Nat}, IT d c s → ∀ {e : Nat}, d ≤ e → IT e c s
  | _, _, _, .name h, e, _ => .name h
  | _, _, _, .par h, 0, he => absurd he (by omega)
  | _, _, _, .par h, e + 1, he => .par (RT.mono h (by omega))
theorem RT.mono : ∀ {d : Nat} {c : Ci} {s : List Nat}, RT d c s → ∀ {e : Nat}, d ≤ e → RT e c s
  | _, _, _, .one h, e, he => .one (IT.mono h he)
  | _, _, _, .row h hl hne, e, he => .row (IT.mono h he) (ITl.mono hl he) hne
theorem ITl.mono : ∀ {d : Nat} {ps : List Ci} {ss : List (List Nat)}, ITl d ps ss → ∀ {e : Nat}, d ≤ e → ITl e ps ss
  | _, _, _, .nil, e, _ => .nil
  | _, _, _, .cons h hl, e, he => .cons (IT.mono h he) (ITl.mono hl he)
end
theorem ITl.len {d : Nat} : ∀ {ps : List Ci} {ss : List (List Nat)}, ITl d ps ss → ps.length = ss.length
  | _, _, .nil => rfl
  | _, _, .cons _ h => congrArg (· + 1) h.len
theorem ITl.snoc {d : Nat} {c : Ci} {s : List Nat} (h : IT d c s) : ∀ {ps : List Ci} {ss : List (List Nat)}, ITl d ps ss → ITl d (ps ++ [c]) (ss ++ [s])
  | _, _, .nil => .cons h .nil
  | _, _, .cons h1 h2 => .cons h1 (ITl.snoc h h2)
theorem rt_join {d : Nat} {k : Bool} {ps : List Ci} {ss : List (List Nat)} (h : ITl d ps ss) (h2 : 2 ≤ ps.length) : RT d (.node k ps) (joinL (tl (sepS k)) ss) := by
  cases h with
  | nil => exact absurd h2 (by decide)
  | cons h hl => exact .row h hl (fun e => by rw [e] at h2; exact absurd h2 (by simp))
def wrapN (w : Nat) (s : List Nat) : List Nat := List.replicate w 40 ++ (s ++ List.replicate w 41)
theorem wrapN_succ (w : Nat) (s : List Nat) : wrapN (w + 1) s = 40 :: (wrapN w s ++ [41]) := by
  unfold wrapN
  rw [List.replicate_succ, List.replicate_succ' (n := w) (a := 41)]
  simp [List.append_assoc]
theorem wrapN_zero (s : List Nat) : wrapN 0 s = s := by
  unfold wrapN
  simp
theorem wrapN_len (w : Nat) (s : List Nat) : (wrapN w s).length = s.length + 2 * w := by
  unfold wrapN
  simp
  omega
theorem RT.wrap {d : Nat} {c : Ci} {s : List Nat} (h : RT d c s) : ∀ w : Nat, RT (d + w) c (wrapN w s)
  | 0 => by
    rw [wrapN_zero]
    exact h
  | w + 1 => by
    rw [wrapN_succ]
    exact .one (.par (RT.wrap h w))
theorem RT.item {d : Nat} {c : Ci} {s : List Nat} (h : RT d c s) (w : Nat) : IT (d + (w + 1)) c (wrapN (w + 1) s) := by
  rw [wrapN_succ]
  exact .par (RT.wrap h w)
/-! ### the greatest number of open parentheses -/
def opS (z : Int × Int) (x : Nat) : Int × Int := if x = 40 then (z.1 + 1, max z.2 (z.1 + 1)) else if x = 41 then (z.1 - 1, max z.2 (z.1 - 1)) else z
theorem op_let : ∀ {s : List Nat} (z : Int × Int), (∀ x ∈ s, 97 ≤ x ∧ x ≤ 122) → s.foldl opS z = z
  | [], _, _ => rfl
  | x :: s, z, h => by
    have h1 := h x List.mem_cons_self
    have e : opS z x = z := by
      unfold opS
      rw [if_neg (by omega), if_neg (by omega)]
    rw [List.foldl_cons, e]
    exact op_let z fun y hy => h y (List.mem_cons_of_mem _ hy)
theorem op_sep (k : Bool) (z : Int × Int) : opS (opS (opS z 32) (sgnN k)) 32 = z := by cases k <;> rfl
mutual
theorem it_open : ∀ {d : Nat} {c : Ci} {s : List Nat}, IT d c s → ∃ e : Nat, e ≤ d ∧ IT e c s ∧ ∀ h m : Int, h ≤ m → s.foldl opS (h, m) = (h, max m (h + e))
  | d, _, _, .name h => ⟨0, Nat.zero_le _, .name h, fun a m ham => by
      rw [op_let _ h.2.2]
      have : max m (a + (0 : Nat)) = m := by omega
      rw [this]⟩
  | _, _, _, .par h => by
    obtain ⟨e, h1, h2, h3⟩ := rt_open h
    refine ⟨e + 1, by omega, .par h2, fun a m ham => ?_⟩
    rw [List.foldl_cons, List.foldl_append]
    show List.foldl opS (List.foldl opS (a + 1, max m (a + 1)) _) [41] = _
    rw [h3 _ _ (by omega)]
    show (a + 1 - 1, max (max (max m (a + 1)) (a + 1 + e)) (a + 1 - 1)) = _
    refine Prod.ext ?_ ?_
    · show a + 1 - 1 = a
      omega
    · show max (max (max m (a + 1)) (a + 1 + e)) (a + 1 - 1) = max m (a + (e + 1 : Nat))
      omega
theorem rt_open : ∀ {d : Nat} {c : Ci} {s : List Nat}, RT d c s → ∃ e : Nat, e ≤ d ∧ RT e c s ∧ ∀ h m : Int, h ≤ m → s.foldl opS (h, m) = (h, max m (h + e))
  | d, _, _, .one h => by
    obtain ⟨e, h1, h2, h3⟩ := it_open h
    exact ⟨e, h1, .one h2, h3⟩
  | d, _, _, .row (k := k) h hl hne => by
    obtain ⟨e, h1, h2, h3⟩ := it_open h
    obtain ⟨e2, g1, g2, g3⟩ := itl_open k hl
    refine ⟨max e e2, by omega, .row (h2.mono (by omega)) (g2.mono (by omega)) hne, fun a m ham => ?_⟩
    rw [joinL_tail, List.foldl_append, h3 a m ham, g3 _ _ (by omega)]
    refine Prod.ext rfl ?_
    show max (max m (a + e)) (a + e2) = max m (a + (max e e2 : Nat))
    omega
theorem itl_open (k : Bool) : ∀ {d : Nat} {ps : List Ci} {ss : List (List Nat)}, ITl d ps ss → ∃ e : Nat, e ≤ d ∧ ITl e ps ss ∧ ∀ h m : Int, h ≤ m → (tailJ k ss).foldl opS (h, m) = (h, max m (h + e))
  | d, _, _, .nil => ⟨0, Nat.zero_le _, .nil, fun a m ham => by
      show (a, m) = (a, max m (a + (0 : Nat)))
      have : max m (a + (0 : Nat)) = m := by omega
      rw [this]⟩
  | d, _, _, .cons h hl => by
    obtain ⟨e, h1, h2, h3⟩ := it_open h
    obtain ⟨e2, g1, g2, g3⟩ := itl_open k hl
    refine ⟨max e e2, by omega, .cons (h2.mono (by omega)) (g2.mono (by omega)), fun a m ham => ?_⟩
    show List.foldl opS (opS (opS (opS (a, m) 32) (sgnN k)) 32) (_ ++ tailJ k _) = _
    rw [op_sep, List.foldl_append, h3 a m ham, g3 _ _ (by omega)]
    refine Prod.ext rfl ?_
    show max (max m (a + e)) (a + e2) = max m (a + (max e e2 : Nat))
    omega
end
/-! ### untidied circles -/
mutual
def tidyC : Ci → Ci
  | .eye n => .eye n
  | .node k ps => mkC k (tidys ps)
def tidys : List Ci → List Ci
  | [] => []
  | c :: r => tidyC c :: tidys r
end
theorem tidys_map : ∀ ps : List Ci, tidys ps = ps.map tidyC
  | [] => rfl
  | c :: r => by
    show tidyC c :: tidys r = _
    rw [tidys_map r]
    rfl
inductive Raw : Nat → Ci → Prop
  | eye {n : Nat} {t : Str} : nm t → Raw n (.eye t)
  | node {n : Nat} {k : Bool} {qs ps : List Ci} : 2 ≤ qs.length → qs.length ≤ 3 → (∀ q ∈ qs, Raw n q) → (ps = qs ∨ ∃ q ∈ qs, ps = qs ++ [q]) → Raw (n + 1) (.node k ps)
theorem Raw.parts {n : Nat} {k : Bool} {ps : List Ci} (h : Raw (n + 1) (.node k ps)) : 2 ≤ ps.length ∧ ps.length ≤ 4 ∧ ∀ q ∈ ps, Raw n q := by
  cases h with
  | node h1 h2 h3 h4 =>
    rcases h4 with rfl | ⟨q, hq, rfl⟩
    · exact ⟨h1, by omega, h3⟩
    · refine ⟨by rw [List.length_append]; omega, by rw [List.length_append]; show _ + 1 ≤ 4; omega, fun c hc => ?_⟩
      rcases List.mem_append.mp hc with hc | hc
      · exact h3 c hc
      · rw [List.mem_singleton.mp hc]
        exact h3 q hq
theorem depths_bd {n : Nat} : ∀ {ps : List Ci}, (∀ c ∈ ps, c.depth ≤ n) → depths ps ≤ n
  | [], _ => Nat.zero_le _
  | c :: r, h => by
    have h1 := h c List.mem_cons_self
    have h2 := depths_bd (ps := r) fun d hd => h d (List.mem_cons_of_mem _ hd)
    show max c.depth (depths r) ≤ n
    omega
theorem Raw.ok : ∀ {n : Nat} {c : Ci}, Raw n c → c.ok ∧ c.depth ≤ n
  | _, .eye t, .eye h => ⟨h, Nat.zero_le _⟩
  | n + 1, .node k ps, h => by
    obtain ⟨h1, h2, h3⟩ := h.parts
    have h4 : ∀ c ∈ ps, c.ok ∧ c.depth ≤ n := fun c hc => Raw.ok (h3 c hc)
    refine ⟨⟨h1, oks_mem.mpr fun c hc => (h4 c hc).1⟩, ?_⟩
    have := depths_bd (n := n) fun c hc => (h4 c hc).2
    show 1 + depths ps ≤ n + 1
    omega
theorem dd_have2 : ∀ {x a : List Ci}, (∀ c ∈ x, c ∈ a) → dd a x = a
  | [], a, _ => by
    unfold dd
    rfl
  | c :: r, a, h => by
    unfold dd
    rw [if_pos (List.any_eq_true.mpr ⟨c, h c List.mem_cons_self, decide_eq_true rfl⟩)]
    exact dd_have2 fun d hd => h d (List.mem_cons_of_mem _ hd)
theorem mk_again {k : Bool} {as : List Ci} {a : Ci} (h : ∀ c ∈ as, c.norm) (ha : a ∈ as) : mkC k (as ++ [a]) = mkC k as := by
  have e : dd [] (flat k (as ++ [a])) = dd [] (flat k as) := by
    rw [flat_append, dd_app, dd_have2 fun d hd => ?_]
    obtain ⟨c, hc, hd⟩ := flat_mem.mp hd
    rw [List.mem_singleton.mp hc] at hd
    exact (pts_mem h).mpr (flat_mem.mpr ⟨a, ha, hd⟩)
  unfold mkC
  rw [e]
theorem mk_size {k : Bool} {cs : List Ci} (h : ∀ c ∈ cs, c.norm) : (mkC k cs).size ≤ sizes cs := by
  rw [mkC_sz, ← sizes_flat (k := k) cs]
  exact sub_sizes (pts_nodup h) fun y hy => (pts_mem h).mp hy
theorem flat_dp {k : Bool} {n : Nat} {cs : List Ci} (h : ∀ c ∈ cs, c.depth ≤ n) : ∀ d ∈ flat k cs, d.depth ≤ n := fun d hd => by
  obtain ⟨c, hc, hd⟩ := flat_mem.mp hd
  have h1 := h c hc
  by_cases g : c.isK k = true
  · rw [if_pos g] at hd
    cases c with
    | eye t => cases g
    | node j ps =>
      have h2 := depths_le (show d ∈ ps from hd)
      have h1 : 1 + depths ps ≤ n := h1
      omega
  · rw [if_neg g] at hd
    rw [List.mem_singleton.mp hd]
    exact h1
theorem mk_depth {k : Bool} {n : Nat} {cs : List Ci} (hn : ∀ c ∈ cs, c.norm) (h : ∀ c ∈ cs, c.depth ≤ n) : (mkC k cs).depth ≤ n + 1 := by
  have h1 : ∀ d ∈ pts k cs, d.depth ≤ n := fun d hd => flat_dp h d ((pts_mem hn).mp hd)
  by_cases g : (pts k cs).length = 1
  · obtain ⟨c, hc⟩ := List.length_eq_one_iff.mp g
    rw [mkC_one hc]
    have := h1 c (by rw [hc]; exact List.mem_cons_self)
    omega
  · rw [mkC_more g]
    have := depths_bd h1
    show 1 + depths (pts k cs) ≤ n + 1
    omega
theorem sizes_bd {m : Nat} : ∀ {ps : List Ci}, (∀ c ∈ ps, c.size ≤ m) → sizes ps ≤ ps.length * m
  | [], _ => Nat.zero_le _
  | c :: r, h => by
    have h1 := h c List.mem_cons_self
    have h2 := sizes_bd (ps := r) fun d hd => h d (List.mem_cons_of_mem _ hd)
    rw [List.length_cons, Nat.succ_mul]
    show c.size + sizes r ≤ _
    omega
theorem putsC_all {g : Str → Ci} {f : Ci → Ci} : ∀ {ps : List Ci}, (∀ c ∈ ps, putC g c = .yes (f c)) → putsC g ps = .yes (ps.map f)
  | [], _ => rfl
  | c :: r, h => by
    show ((putC g c).bind fun d => (putsC g r).bind fun ds => .yes (d :: ds)) = _
    rw [h c List.mem_cons_self, putsC_all fun d hd => h d (List.mem_cons_of_mem _ hd)]
    rfl
theorem Raw.tidy : ∀ {n : Nat} {c : Ci}, Raw n c → n ≤ 3 → (tidyC c).norm ∧ (tidyC c).size ≤ 3 ^ n ∧ (tidyC c).depth ≤ n ∧ putC .eye c = .yes (tidyC c)
  | n, .eye t, .eye h, _ => ⟨h, Nat.one_le_pow _ _ (by decide), Nat.zero_le _, rfl⟩
  | n + 1, .node k ps, h, hn => by
    obtain ⟨p1, p2, p3⟩ := h.parts
    have ih : ∀ c ∈ ps, (tidyC c).norm ∧ (tidyC c).size ≤ 3 ^ n ∧ (tidyC c).depth ≤ n ∧ putC .eye c = .yes (tidyC c) := fun c hc => Raw.tidy (p3 c hc) (by omega)
    cases h with
    | node h1 h2 h3 h4 =>
      rename_i qs
      have hsub : ∀ q ∈ qs, q ∈ ps := fun q hq => by
        rcases h4 with rfl | ⟨q2, hq2, rfl⟩
        · exact hq
        · exact List.mem_append_left _ hq
      have hnq : ∀ c ∈ qs.map tidyC, c.norm := fun c hc => by
        obtain ⟨q, hq, rfl⟩ := List.mem_map.mp hc
        exact (ih q (hsub q hq)).1
      have hdq : ∀ c ∈ qs.map tidyC, c.depth ≤ n := fun c hc => by
        obtain ⟨q, hq, rfl⟩ := List.mem_map.mp hc
        exact (ih q (hsub q hq)).2.2.1
      have hsq : ∀ c ∈ qs.map tidyC, c.size ≤ 3 ^ n := fun c hc => by
        obtain ⟨q, hq, rfl⟩ := List.mem_map.mp hc
        exact (ih q (hsub q hq)).2.1
      have e1 : mkC k (ps.map tidyC) = mkC k (qs.map tidyC) := by
        rcases h4 with rfl | ⟨q2, hq2, rfl⟩
        · rfl
        · rw [List.map_append]
          exact mk_again hnq (List.mem_map_of_mem hq2)
      have e2 : tidyC (.node k ps) = mkC k (qs.map tidyC) := by
        show mkC k (tidys ps) = _
        rw [tidys_map, e1]
      have hne : qs.map tidyC ≠ [] := fun z => by
        have := congrArg List.length z
        rw [List.length_map, List.length_nil] at this
        omega
      have h3n : (3 : Nat) ^ n ≤ 9 := by
        have : n ≤ 2 := by omega
        calc 3 ^ n ≤ 3 ^ 2 := Nat.pow_le_pow_right (by decide) this
          _ = 9 := rfl
      have hsz : (mkC k (qs.map tidyC)).size ≤ 3 * 3 ^ n := by
        have a := mk_size (k := k) hnq
        have b := sizes_bd hsq
        rw [List.length_map] at b
        have c : qs.length * 3 ^ n ≤ 3 * 3 ^ n := Nat.mul_le_mul_right _ h2
        omega
      have hdp := mk_depth (k := k) hnq hdq
      rw [e2]
      refine ⟨mkC_norm hne hnq, by rw [Nat.pow_succ]; omega, hdp, ?_⟩
      rw [putC_node, putsC_all fun c hc => (ih c hc).2.2.2]
      show chk (mkC k (ps.map tidyC)) = _
      rw [e1]
      unfold chk
      rw [over_none.mpr ⟨by omega, by omega⟩]
def lenB : Nat → Nat
  | 0 => 6
  | n + 1 => 4 * (lenB n + 6) + 12
/-! ### texts of tidy circles -/
mutual
theorem row_tx : ∀ (c : Ci), c.ok → ∀ d : Nat, c.depth ≤ d + 1 → RT d c c.tx
  | .eye n, h, d, _ => .one (.name h)
  | .node k ps, h, d, hd => by
    have h1 : 1 + depths ps ≤ d + 1 := hd
    exact rt_join (itl_tx ps h.2 d (by omega)) h.1
theorem itl_tx : ∀ (ps : List Ci), oks ps → ∀ d : Nat, depths ps ≤ d → ITl d ps (inns ps)
  | [], _, d, _ => .nil
  | c :: r, h, d, hd => by
    have hd : max c.depth (depths r) ≤ d := hd
    refine .cons ?_ (itl_tx r h.2 d (by omega))
    cases c with
    | eye n => exact .name h.1
    | node k ps =>
      have h3 : 1 + depths ps ≤ d := by
        have : (Ci.node k ps).depth = 1 + depths ps := rfl
        omega
      cases d with
      | zero => exact absurd h3 (by omega)
      | succ d => exact .par (row_tx (.node k ps) h.1 d h3)
end
end Eyes

set_option Elab.async false
set_option linter.all false
set_option maxRecDepth 100000
set_option maxHeartbeats 4000000
/-! try with several clauses that name what they catch. -/
namespace Eyes
open PySem PySem.Spec PyProof.Rows L2
def endsAs (D : Ends) (j : Nat) : Ends := { nx := fun τ G => D.nx (τ.set j none) G, rt := D.rt, bk := fun τ G => D.bk (τ.set j none) G, ct := fun τ G => D.ct (τ.set j none) G }
def wAll (K : PySem.W.Frag) (D : Ends) : List (Value × Nat × (Addr → Value → Option Addr → TS)) → WX
  | [] => fun _ _ _ _ => False
  | (c, j, ts) :: r => fun cls d τ G => ∃ y, PySem.W.exmOne K cls c = some y ∧ (y = true → ∀ e, G e = none → ts e cls d (endsAs D j) (τ.set j (some (.ref e))) G) ∧ (y = false → wAll K D r cls d τ G)
inductive HdsAs (X : Cx) : List ExceptHandler → List (Value × Nat × (Addr → Value → Option Addr → TS)) → Prop
  | rest {hds : List ExceptHandler} : HdsAs X hds []
  | cons {x n : Str} {c : Value} {j : Nat} {ts : Addr → Value → Option Addr → TS} {st0 : Stmt} {sts : List Stmt} {p1 p2 : Pos} {hds : List ExceptHandler} {l : List (Value × Nat × (Addr → Value → Option Addr → TS))} (hc : Names X x c) (hi : X.N[j]? = some n) (hl : X.env.kindOf n = some .local)
      (su : ∀ (e : Addr) (oe : Obj) (cls : Value) (d : Option Addr) (pn : List (Addr × Obj)), Zc cls d oe → (∃ fs, oe.data = .fields fs) → PSs (X.suite e ((e, oe) :: pn)) (st0 :: sts) (ts e cls d)) (r : HdsAs X hds l) :
      HdsAs X (.ExceptHandler (some (.Name x p1)) (some n) (st0 :: sts) p2 :: hds) ((c, j, ts) :: l)
section
variable {X : Cx} {body : List Stmt} {h1 : ExceptHandler} {hds : List ExceptHandler} {l : List (Value × Nat × (Addr → Value → Option Addr → TS))} {pos : Pos} {tb : WX → TS}
theorem clauses_as {pins : List (Addr × Obj)} {τ : L2.St} {G : Hp} {D : Ends} {e : Addr} {B : Heap} {sI s1 : Shared} {cls : Value} {d : Option Addr} (ok : X.Ok) (hs : X.stack = X.env :: X.outer) (hf : X.env.frame = some X.env.locals) (hN : X.N.Nodup)
    (J : Inv X pins τ G sI) (nb : ∀ b o, sI.heap.get? b = some o → b ∉ frs X.stack → B.get? b = some o) (up : sI.heap.UpToSlots s1.heap) (fl : HandSPX.FlyingZ B (X.env :: X.outer) e (Zc cls d) s1.heap) (na : G e = none) (os : s1.os = sI.os) (ag : AllBare s1.gens)
    (nL : e ≠ X.env.locals) (nF : e ∉ X.fs) {hs' : List ExceptHandler} {l' : List (Value × Nat × (Addr → Value → Option Addr → TS))} (hh : HdsAs X hs' l') :
    wAll X.K D l' cls d τ G → wpAny (model X.prog X.w) X.A (handleBy (.ref e) X.env hs') (SP X pins D) X.xe s1 := by
  induction hh with
  | rest => exact fun z => z.elim
  | @cons x n c j ts st0 sts p1 p2 hds2 l2 hc hi hl su r ih =>
    rintro ⟨y, hy, yes, no⟩
    obtain ⟨oe, fs, he, hz, hd⟩ := fl.there
    have here : Inv X pins τ G s1 := J.landed nb fl.1 up os ag
    have inS := here.suite he hd na nL nF
    have cl : PySem.W.Looks (model X.prog X.w) s1.heap (typeOf (.ref e)) cls := fun A' Q' E' s' kp q => wpAny_typeOf_ref (kp _ _ he) (by rw [hz.1]; exact q)
    have mt := PySem.W.exm_one (M := model X.prog X.w) here.kIn cl hy
    have named : ∀ {Q' E' : Value → Shared → Prop}, Q' c s1 → wpAny (model X.prog X.w) (X.A.mark (some (.ref e))) (eval (.Name x p1) X.env) Q' E' s1 := by
      intro Q' E' q
      obtain ⟨g1, g2, g3 | ⟨g3, g4, g5⟩⟩ := hc
      · exact ld_glob (X := X.suite e ((e, oe) :: (X.pn ++ pins))) inS g1 g3 q g2
      · exact ld_blt (X := X.suite e ((e, oe) :: (X.pn ++ pins))) inS g1 g3 g4 q g5 g2
    refine wpAny_handleBy_cons (codeAny_handlers_test (named (mt.here ?_))) (fun z => nomatch z)
    cases y with
    | false => exact ih (no rfl)
    | true =>
      refine codeAny_handlers_suite_as (HandSPX.lands_againZ fl fun h4 fl4 up4 => ?_)
      obtain ⟨oe4, fs4, he4, hz4, hd4⟩ := fl4.there
      have at4 : Inv X pins τ G { s1 with heap := h4 } := J.landed nb fl4.1 (up.trans up4) os ag
      refine store_ok (X := X.suite e ((e, oe4) :: (X.pn ++ pins))) (v := .ref e) (at4.suite he4 hd4 na nL nF) hN hi (.inl hl) rfl (fun s5 I5 => ?_) (.inr hl)
      refine wpAny_mono ((su e oe4 cls d (X.pn ++ pins) hz4 ⟨_, hd4⟩).run [] s5 _ G _ I5 (yes rfl e na)) (fun f s6 q6 => ?_) (fun _ _ z => z.elim)
      have bare : ∀ {τ6 : L2.St} {G6 : Hp} {Q' : Shared → Prop}, Inv (X.suite e ((e, oe4) :: (X.pn ++ pins))) [] τ6 G6 s6 → (∀ s7, Inv X pins (τ6.set j none) G6 s7 → Q' s7) →
          wpAny (model X.prog X.w) X.A (do bindName X.env n .none; unbindBehindTheSuite X.env n p2) (fun _ s7 => Q' s7) X.xe s6 := fun {τ6 G6 Q'} I6 q => gone_ok (I6.unsuite ok) hN hi hl q
      cases f with
      | next =>
        obtain ⟨τ6, G6, I6, w6⟩ := q6
        exact bare I6 fun s7 I7 => ⟨_, _, I7, w6⟩
      | brk =>
        obtain ⟨τ6, G6, I6, w6⟩ := q6
        exact bare I6 fun s7 I7 => ⟨_, _, I7, w6⟩
      | cont =>
        obtain ⟨τ6, G6, I6, w6⟩ := q6
        exact bare I6 fun s7 I7 => ⟨_, _, I7, w6⟩
      | ret u =>
        obtain ⟨v6, τ6, G6, I6, r6, w6⟩ := q6
        exact bare I6 fun s7 I7 => ⟨_, _, _, I7, r6, w6⟩
theorem ps_tryAs (hs : X.stack = X.env :: X.outer) (hf : X.env.frame = some X.env.locals) (hN : X.N.Nodup)
    (hb : ∀ (W : WX) (pn : List (Addr × Obj)) (xe : Value → Shared → Prop), Takes (X.tr pn xe) W → PassesOwn (model X.prog X.w) X.A X.env xe → PSs (X.tr pn xe) body (tb W)) (hh : HdsAs X (h1 :: hds) l) :
    PS X (.Try body (h1 :: hds) [] [] pos) (fun D τ G => tb (wAll X.K D l) D τ G) := by
  refine ⟨fun pins s τ G D I h => ?_⟩
  have ok := I.ok
  have stk : X.A.frames = some (X.env :: X.outer) := ok.frames.trans (by rw [hs])
  have out : Takes (X.tr (X.pn ++ pins) (fun u s2 => wpAny (model X.prog X.w) X.A (noteFrame u X.env) (fun _ s3 => wpAny (model X.prog X.w) X.A (setFlight u none) (fun _ s4 => wpAny (model X.prog X.w) X.A (handleBy u X.env (h1 :: hds)) (SP X pins D) X.xe s4) X.xe s3) X.xe s2)) (wAll X.K D l) := by
    rintro u s' ⟨e, B, sI, pins', τ', G', cls, d, rfl, J', nb, up, sky, na, os, ag, w⟩
    have J : Inv X pins τ' G' sI := J'.ofTry ok
    refine Sky.land (B := B) (L := X.env.locals) (Z := Zc cls d) Zc.steady stk hf (by rw [← hs]; exact sky) fun h3 fl up3 => ?_
    obtain ⟨oe, fs, he, hz, hd⟩ := fl.there
    have away : e ∉ frs (X.env :: X.outer) := fun hm => by
      obtain ⟨_, o', e', nf⟩ := fl.2.2.1.mem hm
      cases he.symm.trans e'
      exact nf _ hd
    refine clauses_as (s1 := { s' with heap := h3 }) ok hs hf hN J nb (up.trans up3) fl na os ag (fun z => away (List.mem_filterMap.mpr ⟨X.env, List.mem_cons_self, by rw [hf, z]⟩)) (fun hm => ?_) hh w
    obtain ⟨v, hv, q⟩ := List.mem_filterMap.mp hm
    exact away (List.mem_filterMap.mpr ⟨v, List.mem_cons_of_mem _ hv, q⟩)
  refine wpAny_Try_except (wpAny_mono ((hb _ _ _ out PassesOwn.looking).run [] s τ G D (I.toTry _) h) (fun f s1 q => ?_) fun _ _ z => z)
  cases f with
  | next =>
    obtain ⟨τ1, G1, I1, w1⟩ := q
    exact wpAny_execs_nil ⟨τ1, G1, I1.ofTry ok, w1⟩
  | brk =>
    obtain ⟨τ1, G1, I1, w1⟩ := q
    exact ⟨τ1, G1, I1.ofTry ok, w1⟩
  | cont =>
    obtain ⟨τ1, G1, I1, w1⟩ := q
    exact ⟨τ1, G1, I1.ofTry ok, w1⟩
  | ret u =>
    obtain ⟨v1, τ1, G1, I1, r1, w1⟩ := q
    exact ⟨v1, τ1, G1, I1.ofTry ok, r1, w1⟩
end
end Eyes

set_option Elab.async false
set_option linter.all false
set_option maxRecDepth 100000
set_option maxHeartbeats 4000000
/-! Defs that may raise an own error; own errors that bear what they are given. -/
namespace Eyes
open PySem PySem.Spec PyProof.Rows L2
def PrX (P : Program) (w : World) (K : PySem.W.Frag) (mg : Str → Option Value) (base : Heap) (x : Str) (st : Stmt) (ps : List Str) (k : Nat) (sp : Sp) : Prop :=
  ∃ (f : Addr) (fd : FuncData), mg x = some (.ref f) ∧ Fun K x x st f fd ∧ Binds K fd ps [] ∧ FnOk P w K mg base (L2.CX P w) k f fd ps sp
section
variable {P : Program} {w : World} {K : PySem.W.Frag} {mg : Str → Option Value} {base : Heap}
theorem prx_mk {x : Str} {st : Stmt} {N ps : List Str} {k : Nat} {sp : Sp} (A : FnAt K mg x st ps) (S : FnScope N ps (defScope st)) (len : ∀ vs H Q E, sp vs H Q E → vs.length = ps.length)
    (hbody : ∀ (f : Addr) (cdv : Value) (A : Around) (outer : List Env) (s : Shared) (H : Hp) (vs : List V) (Q : VK) (E : XK), Room k (A.deeper (envOfC x (defScope st) s.heap.objs.size f cdv)) → sp vs H Q E →
      Takes (cxOf (L2.CX P w) P w K mg base N x (defScope st) f cdv A outer s H E) (fun cls d _ G => E cls d G) →
      ∃ t, PSs (cxOf (L2.CX P w) P w K mg base N x (defScope st) f cdv A outer s H E) (defBody st) t ∧ t { nx := fun _ H' => Q .non H', rt := Q } (start N vs) H) : PrX P w K mg base x st ps (k + 1) sp := by
  obtain ⟨f, fd, F, hb, hm⟩ := A
  exact ⟨f, fd, hm, F, hb, F.okX S len fun cdv A outer s H vs Q E hr h => hbody f cdv A outer s H vs Q E hr h (takes_of rfl rfl rfl rfl)⟩
theorem noneX : ∀ {outer : List Env} {s : Shared} {H : Hp} {e : Value} {s' : Shared}, L2.CX P w outer H s (fun _ _ _ => False) e s' → False := fun {outer s H e s'} h => by
  obtain ⟨_, _, _, _, _, _, _, _, _, _, _, _, z⟩ := h
  exact z
end
section
variable {X : Cx} {x : Str} {st : Stmt} {ps : List Str} {sp : Sp} {e : Expr} {es : List Expr} {kws : List Keyword} {p pos : Pos} {t tk : TA} {W : WX}
theorem pcallX {j k : Nat} (G : PrX X.prog X.w X.K X.mg X.base x st ps j sp) (hr : Room k X.A) (tk : Takes X W) (ha : PA X (e :: es) t) (hj : j ≤ k := by first | decide | omega) (hg : Gl X x := by rfl)
    (hdb : (x == ("__debug__" : Str)) = false := by decide) (he : starEach (e :: es) X.env = (false, eval e X.env) :: starEach es X.env := by rfl) (hpl : (backTo pos (starEach es X.env)).any (·.1) = false := by rfl) :
    PE X (.Call (.Name x p) (e :: es) [] pos) (tCallS sp (WE W) t) := by
  obtain ⟨f, fd, hm, F0, hb, F⟩ := G
  exact pe_callS F (hr.mono hj) hg hm F0.kp hb (fun σ => passAt tk σ) ha hdb he hpl
theorem pcallY {j k : Nat} (G : PrX X.prog X.w X.K X.mg X.base x st ps j sp) (hr : Room k X.A) (ha : PA X (e :: es) t) (hj : j ≤ k := by first | decide | omega) (hg : Gl X x := by rfl)
    (hdb : (x == ("__debug__" : Str)) = false := by decide) (he : starEach (e :: es) X.env = (false, eval e X.env) :: starEach es X.env := by rfl) (hpl : (backTo pos (starEach es X.env)).any (·.1) = false := by rfl) :
    PE X (.Call (.Name x p) (e :: es) [] pos) (tCall sp [] (fun _ _ _ => False) t) := by
  obtain ⟨f, fd, hm, F0, hb, F⟩ := G
  exact pe_call F (hr.mono hj) hg hm F0.kp hb .nil (fun _ _ _ _ _ _ _ h => (noneX h).elim) ha hdb he hpl
theorem pcallYN0 {j k : Nat} {ks : List Str} {is : List Nat} (G : PrX X.prog X.w X.K X.mg X.base x st ps j sp) (hk : KwOk x st ps 0 ks is) (hr : Room k X.A) (hkw : PK X kws tk) (hj : j ≤ k := by first | decide | omega) (hg : Gl X x := by rfl)
    (hall : (backToKw pos (keywordEach kws X.env)).all (·.1.isSome) = true := by rfl) (hks : (backToKw pos (keywordEach kws X.env)).filterMap (·.1) = ks := by rfl)
    (hdb : (x == ("__debug__" : Str)) = false := by decide)
    (hpl : ((backTo pos (starEach [] X.env)).any (·.1) || (backToKw pos (keywordEach kws X.env)).any (·.1.isNone)) = false := by rfl) :
    PE X (.Call (.Name x p) [] kws pos) (tCallN 0 ks.length sp (fun vs zs => pick is (vs ++ zs)) (fun _ _ _ => False) tNil tk) := by
  obtain ⟨f, fd, hm, F0, hb, F⟩ := G
  refine ⟨fun pins s σ H Q I h => wpAny_Call_Name_kw (ld_glob I hg hm ?_ hdb)⟩
  refine PySem.W.callWith_KW0 (h₀ := X.base) I.ok.mod.kin F0.kp hall (thn (hkw.run pos pins s σ H _ I h) fun ws s2 ⟨zs, H2, I2, rz, l1, l2, q2⟩ => ⟨I2.kIn, ?_⟩) hpl
  rw [hks]
  exact run_fnN (us := []) (vs := []) F (hr.mono hj) (kbn F0 hk) (fun _ _ _ _ _ _ _ h => (noneX h).elim) I2 .nil rz rfl l2 q2
end
/-! ### own errors -/
structure ErrAt (K : PySem.W.Frag) (mg : Str → Option Value) (x : Str) (C : Addr) (qual : Str) (st : Stmt) (ps : List Str) : Prop where
  gC : mg x = some (.ref C)
  oex : OexC K C
  xf : XfC K C
  fn : ∃ (f : Addr) (fd : FuncData), PySem.W.findIn K (.ref C) "__init__" = some (some (.ref f)) ∧ PySem.W.typeIn K (.ref f) = some (.type "function") ∧ Fun K "__init__" qual st f fd ∧ Binds K fd ps []
theorem errAt_mk {K : PySem.W.Frag} {h : Heap} {mg : Str → Option Value} (X : K.In h) (G : h.Ns mainGlobals mg) {x qual : Str} {C f : Addr} {st : Stmt} {ps : List Str} {oc : Value} {od an : Option Addr} {osl : Array (Option Value)} {kV doc pm cdv ct : Value}
    {nm q : Str} {N : Addr} {bs bm sub : List Value} {sn : List Str} {ab : Bool} {col : Option Bool} {dd : Option Addr} {k0 k1 k2 k3 k5 : Option Value}
    (a : PySem.W.nsIn K mainGlobals x = some (some (.ref C))) (c1 : K.lookup C = some (excClassObj nm q C N bs bm true sn sub ab col dd k0 k1 k2 k3 k5 "ValueError.__new__")) (c2 : PySem.HandSPX.refsVE bm = true)
    (c3 : PySem.W.findIn K (.ref C) "__setattr__" = some (some (.builtin "object.__setattr__"))) (c4 : PySem.W.subIn K (.ref C) (.type "BaseException") = some true) (c5 : PySem.W.typeIn K (.ref C) = some (.type "type")) (c6 : PySem.W.keepIn K (.ref C) = true)
    (c7 : xfB K C = true) (i1 : PySem.W.findIn K (.ref C) "__init__" = some (some (.ref f))) (i2 : PySem.W.typeIn K (.ref f) = some (.type "function"))
    (l : K.lookup f = some ⟨oc, od, .func (PySem.W.fnOf "__init__" qual (defArgs st) (defBody st) (defScope st) .none kV doc pm an cdv ct), osl⟩) (c : PySem.W.codeIn K cdv qual = true) (k : PySem.W.keepIn K (.ref f) = true) (hb : BindH "__init__" qual st ps) : ErrAt K mg x C qual st ps :=
  ⟨PySem.W.mg_of X G a, ⟨⟨_, _, _, _, _, _, _, _, _, _, _, _, _, _, _, c1, c2⟩, c3, c4, c5, c6⟩, xfB_ok c7, f, _, i1, i2, fun_mk l c k, (fun_mk l c k).binds hb⟩
def spErr1 (C : Addr) (g : Str) : Sp := fun vs H Q _ => ∃ (a : Addr) (v : V), vs = [.ref a, v] ∧ H a = some (exo a C none) ∧ ∀ d, H d = none → d ≠ a → Q .non (upd (upd H d (exd d [(g, v)])) a (exo a C (some d)))
theorem gone_to {H1 : Hp} {a d : Addr} {o1 o2 o3 o4 : HO} (n : H1 a = none) (ne : d ≠ a) : upd (del (upd (upd (upd H1 a o1) d o2) a o3) a) d o4 = upd H1 d o4 := by
  funext b
  by_cases hb : b = d
  · rw [hb, upd_same, upd_same]
  · rw [upd_ne hb, upd_ne hb]
    by_cases ha : b = a
    · rw [ha, del_same, n]
    · rw [del_ne ha, upd_ne ha, upd_ne hb, upd_ne ha]
section
variable {X : Cx} {W : WX} {e : Expr} {ta : TA} {p pos pos2 : Pos} {x g qual : Str} {C : Addr} {st : Stmt} {ps : List Str} {j k : Nat}
theorem raise1_by {H1 : Hp} {v : V} {Q : XK} (q : ∀ d, H1 d = none → Q (.ref C) (some d) (upd H1 d (.xd [(g, v)]))) :
    [v].length ≤ 1000 ∧ ∀ a, H1 a = none → spErr1 C g (.ref a :: ([v] ++ [])) (upd H1 a (exo a C none)) (fun v H2 => v = .non ∧ ∃ (d : Addr) (fs : List (Str × V)), H2 a = some (exo a C (some d)) ∧ H2 d = some (exd d fs) ∧ H1 d = none ∧ Q (.ref C) (some d) (upd (del H2 a) d (.xd fs))) (fun _ _ _ => False) := by
  refine ⟨by show 1 ≤ 1000; decide, fun a na => ⟨a, v, rfl, upd_same, fun d nd ne => ?_⟩⟩
  rw [upd_ne ne] at nd
  refine ⟨rfl, d, _, upd_same, (upd_ne ne).trans upd_same, nd, ?_⟩
  rw [gone_to na ne]
  exact q d nd
theorem ps_raise1 (T : ErrAt X.K X.mg x C qual st ps) (F : ∀ f fd, Fun X.K "__init__" qual st f fd → Binds X.K fd ps [] → FnOk X.prog X.w X.K X.mg X.base CX0 j f fd ps (spErr1 C g)) (hc : X.calm = true) (tk : Takes X W) (hr : Room k X.A) (ha : PA X [e] ta) (hj : j + 1 ≤ k := by first | decide | omega) (hg : Gl X x := by rfl)
    (hdb : (x == ("__debug__" : Str)) = false := by decide) (he : starEach [e] X.env = (false, eval e X.env) :: starEach [] X.env := by rfl) (hpl : (backTo pos (starEach [] X.env)).any (·.1) = false := by rfl) :
    PS X (.Raise (some (.Call (.Name x p) [e] [] pos)) none pos2) (fun _ σ H => tMkO C (spErr1 C g) [] ta σ H fun cls d H' => W cls d σ H') := by
  obtain ⟨f, fd, i1, i2, F0, hb⟩ := T.fn
  exact ps_raise hc tk (pmk_oex T.oex i1 i2 (F f fd F0 hb) (hr.mono hj) hb .nil (fun _ _ _ _ _ _ _ h => h.elim) hg T.gC ha hdb he hpl)
end
end Eyes

set_option Elab.async false
set_option linter.all false
set_option maxRecDepth 100000
set_option maxHeartbeats 4000000
/-! A list comprehension whose items may raise. -/
namespace Eyes
open PySem PySem.Spec PyProof.Rows L2
def postX (M : Model) (A : Around) (E : Value → Shared → Prop) (fr : Option Addr) (Q : Value → Shared → Prop) (acc : Value) (C : Addr) (r : Result) (t : Shared) : Prop := match r with
  | .ok _ => ∃ m, t.heap.Ns C m ∧ ∀ g, Heap.SameBut C t.heap g → Q acc { t with heap := g }
  | .error x => ∃ m, t.heap.Ns C m ∧ ∀ g, (∃ m2, g.Ns C m2) → Heap.SameBut C t.heap g → ∀ ce : Env, ce.frame = fr → wpAny M A (passOn "comprehension.variables-let-go" x ce : Sem Value) (fun _ _ => False) E { t with heap := g }
section
variable {M : Model} {A : Around} {E : Value → Shared → Prop} {s : Shared} {env : Env}
theorem comp_freeX {ex : Expr} {sco : Scope} {ps : Pos} {mk fst : Sem Value} {cl0 : Comprehension} {cls : List Comprehension} {clo : List (Str × Addr)} {Q : Value → Shared → Prop}
    (a1 : clausesOf ex = cl0 :: cls) (a2 : ∀ x, foldedSetIterable cl0.iter env x = pure x) (a3 : closureFor sco env = pure clo) (a4 : sco.kind = .function) (a5 : ∀ x ∈ sco.names, x.2 = .local → sco.names.lookup x.1 = some .local)
    (h : wpAny M A fst (fun x t1 => wpAny M A (pyIter x) (fun it t2 => wpAny M A mk (fun acc t3 => wpAny M A (newFunctionEnv sco env.globals clo [] env.qual none .none (some env)) (fun ce t4 =>
      codeAny M A (.compStart ex 0 it acc { ce with scope := relabel sco env }) (postX M A E ce.frame Q acc ce.locals) t4) E t3) E t2) E t1) E s) :
    wpAny M A (comprehension ex sco env ps mk false fst none) Q E s := by
  unfold comprehension
  rw [a3, a1]
  refine wpAny_bind (wpAny_mono h (fun x t1 k1 => wpAny_bind (wpAny_standAt (wpAny_bind (wpAny_of_eq (a2 x) (wpAny_bind (wpAny_holding (wpAny_mono k1 (fun it t2 k2 => ?_) fun _ _ z => z))))))) fun _ _ z => z)
  refine wpAny_standIf (wpAny_bind (wpAny_mono k2 (fun acc t3 k3 => wpAny_bind (wpAny_pure (wpAny_bind (wpAny_mono k3 (fun ce t4 k4 => ?_) fun _ _ z => z)))) fun _ _ z => z))
  dsimp only
  have loc : ∀ x ∈ (sco.names.filter fun x => (x.2 == .local || x.2 == .cell) && x.1 != (".0" : Str)).reverse, x.2 = .local → Env.kindOf { ce with scope := relabel sco env } x.1 = some .local := fun x hx hl =>
    lookup_relabel_local (a5 x (List.mem_filter.mp (List.mem_reverse.mp hx)).1 hl)
  refine wpAny_holding (wpAny_bind (wpAny_attempt (wpAny_holding (wpAny_run (codeAny_mono k4 fun r t5 k5 => ?_)))))
  cases r with
  | ok f =>
    obtain ⟨m, kn, k6⟩ := k5
    exact wpAny_bind (wpAny_holding (wpAny_comp_letGo (cenv := { ce with scope := relabel sco env }) a4 _ t5 m loc kn fun g m' _ hg => wpAny_pure (k6 g hg)))
  | error x =>
    obtain ⟨m, kn, k6⟩ := k5
    exact wpAny_bind (wpAny_holding (wpAny_comp_letGo (cenv := { ce with scope := relabel sco env }) a4 _ t5 m loc kn fun g m' hn' hg => wpAny_mono (k6 g ⟨m', hn'⟩ hg _ rfl) (fun _ _ z => z.elim) fun _ _ z => z))
end
section
variable {X : Cx} {Ew : XK}
theorem frs_none {h base : Heap} {l : List Env} (f : h.FunFrames base l) : ∀ b ∈ frs l, base.get? b = none := fun b hb => (f.mem hb).1
theorem note_same {e : Value} {ce env : Env} (hf : ce.frame = env.frame) : noteFrame e ce = noteFrame e env := by
  unfold noteFrame PySem.frameOf
  rw [hf]
theorem blk_out (tk : Takes X (fun cls d _ H => Ew cls d H)) (hs : X.stack = X.env :: X.outer) (hf : X.env.frame = some X.env.locals) {pins : List (Addr × Obj)} {σ : L2.St} {H3 : Hp} {s3 : Shared} (J3 : Inv X pins σ H3 s3) {sco : Scope} {ce : Env} (hfr : ce.frame = X.env.frame)
    (locC : ce.locals = s3.heap.objs.size) {fp : List Addr} (fpk : ∀ b ∈ fp, FpOk X pins H3 b ∧ b < s3.heap.objs.size) {e0 : Value → Shared → Prop} {pb : List (Addr × Obj)} {σb : L2.St} {H : Hp} {s : Shared} (Ib : Inv ((X.blk s3 H3 sco ce fp).wish e0) pb σb H s) {u : Value} {s' : Shared}
    (c : L2.CX X.prog X.w X.stack H s Ew u s') {acc : Value} {Q : Value → Shared → Prop} : notedBy (model X.prog X.w) X.A ce (fun e t => postX (model X.prog X.w) X.A X.xe ce.frame Q acc s3.heap.objs.size (.error e) t) u s' := by
  obtain ⟨a, B, H', cls, d, rfl, fl, hok, ub, na, os, ag, hE⟩ := c
  have J7 : Inv X pins σ H s := J3.call' (ch := fp) Ib.os Ib.base Ib.hok Ib.bare fun b hb => ⟨(fpk b hb).1.2.2.2.1, (fpk b hb).1.2.1, (fpk b hb).1.2.2.2.2.1, (fpk b hb).1.2.2.2.2.2⟩
  obtain ⟨m, hn, _⟩ := Ib.loc
  have hn : s.heap.Ns ce.locals m := hn
  have hCn : H ce.locals = none := Ib.free
  rw [locC] at hn hCn
  have fC : FpOk X pins H s3.heap.objs.size := J3.fpOk (Nat.le_refl _) hCn
  generalize s3.heap.objs.size = C at hn hCn fC ⊢
  have hCf : C ∉ frs X.stack := fun hm => (List.mem_cons.mp (J3.stkSub C hm)).elim fC.2.1 fC.2.2.1
  have frA : X.A.frames = some (X.env :: X.outer) := by rw [J3.ok.frames, hs]
  obtain ⟨oC, esC, epC, hoC, rC⟩ := hn
  have hBC : B.get? C = some oC := ub.keep C oC hoC hCn hCf
  have hCn' : H' C = none := ub.free C oC hoC hCn
  have sI := J7.stack
  rw [hs] at fl
  show wpAny _ _ (noteFrame (.ref a) ce) _ _ s'
  rw [note_same hfr]
  refine HandSPX.looks_onZ Zc.steady frA hf fl fun h1 held up1 => ?_
  refine ⟨m, ⟨oC, esC, epC, held.1 C oC hBC, rC⟩, fun g hg sb ce' hce' => ?_⟩
  obtain ⟨m2, hg⟩ := hg
  obtain ⟨q1, q2, q3, q4⟩ := held
  obtain ⟨B1, b1, b2⟩ := restrict g fun b => (B.get? b).isSome
  have B1in : ∀ b o, B1.get? b = some o → g.get? b = some o ∧ ∃ o', B.get? b = some o' := fun b o e => by
    cases q : (B.get? b).isSome with
    | false => rw [b2 b q] at e; cases e
    | true =>
      rw [b1 b q] at e
      exact ⟨e, Option.isSome_iff_exists.mp q⟩
  have B1of : ∀ b o, B.get? b = some o → b ≠ C → B1.get? b = some o := fun b o e ne => by
    rw [b1 b (by simp [e])]
    exact (sb.2 b ne).trans (q1 b o e)
  have none1 : ∀ b, B.get? b = none → B1.get? b = none := fun b e => b2 b (by simp [e])
  have aC : a ≠ C := fun z => by
    rw [z, hBC] at q2
    cases q2
  have hh1 : HandSPX.HeldZ B1 (X.env :: X.outer) a (Zc cls d) X.env.locals g := by
    obtain ⟨oe, vs, T, oT, ts, he, hz, hd, h1', hnT, hTe, hT, hdT, h3⟩ := q4
    have tC : T ≠ C := fun z => by
      rw [z, hBC] at hnT
      cases hnT
    refine ⟨fun b o e => (B1in b o e).1, none1 a q2, funFrames_none (Heap.FunFrames.sameBut sb hg q3) fun b hb => none1 b (frs_none q3 b hb), oe, vs, T, oT, ts, (sb.2 a aC).trans he, hz, hd, h1', none1 T hnT, hTe, (sb.2 T tC).trans hT, hdT, h3⟩
  have fin : ∀ h2, HandSPX.HeldZ B1 (X.env :: X.outer) a (Zc cls d) X.env.locals h2 → g.UpToSlots h2 → X.xe (.ref a) { s' with heap := h2 } := fun h2 held2 up2 => by
    obtain ⟨G, g1, g2⟩ := restrict h2 fun b => (B1.get? b).isSome || decide (b ∈ frs X.stack)
    have st : B1.StaysIn h2 := held2.1
    have ofB : ∀ b o, B1.get? b = some o → G.get? b = some o := fun b o e => by
      rw [g1 b (by simp [e])]
      exact st b o e
    have ofF : ∀ b, b ∈ frs X.stack → G.get? b = h2.get? b := fun b hb => g1 b (by simp [hb])
    have inG : ∀ b o, G.get? b = some o → h2.get? b = some o ∧ ((B1.get? b).isSome = true ∨ b ∈ frs X.stack) := fun b o e => by
      cases q : ((B1.get? b).isSome || decide (b ∈ frs X.stack)) with
      | false => rw [g2 b q] at e; cases e
      | true =>
        rw [g1 b q] at e
        exact ⟨e, by simpa [Bool.or_eq_true] using q⟩
    have slot : ∀ b o, s.heap.get? b = some o → b ∈ frs X.stack → ∃ sl, G.get? b = some { o with slots := sl } := fun b o e hb => by
      obtain ⟨_, o', e', nf⟩ := sI.mem hb
      rw [e] at e'
      cases e'
      have bC : b ≠ C := fun z => hCf (z ▸ hb)
      obtain ⟨s1, z1⟩ := ub.slot b o e hb
      obtain ⟨s2, z2⟩ := up1 b _ z1 nf
      obtain ⟨s4, z4⟩ := up2 b _ ((sb.2 b bC).trans z2) nf
      exact ⟨s4, by rw [ofF b hb]; exact z4⟩
    have okB1 : HOk X.prog X.w H' B1 := fun b o q => (hok b o q).stay (fun c v hc r => B1of c v r fun z => by
      rcases hc with hc | hc
      · rw [← hc, z, hCn'] at q
        cases q
      · rw [z, hCn'] at hc
        cases hc) (fun _ r => r) fun _ _ r => r
    refine tk _ _ ⟨a, B1, { s with heap := G, gens := s'.gens, drawn := s'.drawn, toks := s'.toks }, pins, σ, H', cls, d, rfl, ?_, fun b o e hb => ?_, Heap.UpToSlots.of_keeps fun b o e => (inG b o e).1, ?_, na, os, ag, hE⟩
    · refine J7.call (ch := [C]) ⟨fun b o e n hb hx => ?_, fun b o e n hb hx => slot b o e hb, fun b o e n _ => ub.free b o e n, fun b o e hx => ?_, ub.tups, ub.frzs, ub.tbls⟩ (okB1.kept ofB) ag fun b hb => ?_
      · exact ofB b o (B1of b o (ub.keep b o e n hb) fun z => hx (by rw [z]; exact List.mem_cons_self))
      · by_cases hb : b ∈ frs X.stack
        · obtain ⟨sl, q⟩ := slot b o e hb
          exact ⟨_, q⟩
        · obtain ⟨o', q⟩ := ub.there b o e hb
          exact ⟨o', ofB b o' (B1of b o' q fun z => hx (by rw [z]; exact List.mem_cons_self))⟩
      · rw [List.mem_singleton.mp hb]
        exact ⟨fC.2.2.2.1, fC.2.1, fC.2.2.2.2.1, fC.2.2.2.2.2⟩
    · obtain ⟨e', h⟩ := inG b o e
      rcases h with h | h
      · obtain ⟨o', q⟩ := Option.isSome_iff_exists.mp h
        have z := st b o' q
        rw [e'] at z
        cases z
        exact q
      · exact absurd h hb
    · rw [hs]
      exact .inr (.inr held2)
  obtain ⟨oe, vs, T, oT, ts, he, hz, hd, h1', hnT, hTe, hT, hdT, h3⟩ := id hh1.2.2.2
  unfold PySem.passOn
  refine wpAny_bind (wpAny_field he hd h1' ?_)
  rw [if_neg (show ¬ ((Value.ref T == Value.none) = true) from by simp)]
  rw [hce', hfr, hf]
  refine wpAny_bind (HandSPX.setFlight_onZ hh1 fun h2 held2 up2 => wpAny_throw (fin h2 held2 up2))
end
section
variable {X : Cx} {Ew : XK}
theorem pe_lcX {elt tg iter : Expr} {ifs : List Expr} {sco : Scope} {own : List (Str × Nat)} {pos : Pos} {wi : TI} {g : TG} {tt : TT} {te : TE} (tk : Takes X (fun cls d _ H => Ew cls d H)) (hst : X.stack = X.env :: X.outer) (hfr : X.env.frame = some X.env.locals)
    (hc : X.calm = true) (hN : X.N.Nodup) (hi : PI X tg iter wi) (ok : BlkOk X.N X.env.scope sco own)
    (hg : ∀ (s : Shared) (H : Hp) (C : Addr) (cl : List (Str × Addr)) (fp : List Addr), PG (X.blk s H sco (compEnvC sco cl C X.env) fp) tg g)
    (ht : ∀ (s : Shared) (H : Hp) (C : Addr) (cl : List (Str × Addr)) (fp : List Addr), PTs (X.blk s H sco (compEnvC sco cl C X.env) fp) ifs tt)
    (he : ∀ (s : Shared) (H : Hp) (C : Addr) (cl : List (Str × Addr)) (fp : List Addr) (e0 : Value → Shared → Prop), (∀ σ, PassesAt (L2.CX X.prog X.w) ((X.blk s H sco (compEnvC sco cl C X.env) fp).wish e0) σ Ew) → PE ((X.blk s H sco (compEnvC sco cl C X.env) fp).wish e0) elt te)
    (hs : ∀ x, foldedSetIterable iter X.env x = pure x := by intro _; rfl) : PE X (.ListComp elt [⟨tg, iter, ifs, 0⟩] sco pos) (tLc wi g tt te (own.map (·.2))) := by
  refine ⟨fun pins s σ H Q I h => ?_⟩
  rw [eval_ListComp]
  have hfree : ∀ y ∈ sco.names, y.2 = .free → ∃ c, X.env.cells.lookup y.1 = some c := fun y hy e => (ok.free y hy e).elim (fun k => I.ok.has _ (.inl k)) fun k => I.ok.has _ (.inr k)
  refine comp_freeX rfl hs (closure_ok hfree) ok.kind (fun y hy e => by rw [ok.uniq y hy, e]) (thn (hi.run pins s σ H _ I h) fun xv s1 hx => thn hx fun itv s2 h2 => ?_)
  obtain ⟨it, fp, tn, J, H2, e, J2, T, tn2, f2, q⟩ := h2
  subst e
  refine wpAny_newObj_type (newEnv_comp ?_) (by show 0 ≤ sizeLine; decide)
  generalize atD : s2.heap.objs.size = D
  have newD : H2 D = none := J2.hok.fresh (Nat.le_of_eq atD)
  obtain ⟨W, ⟨m0, wst⟩, turn⟩ := q D newD
  generalize is3 : ({ s2 with heap := s2.heap.push { cls := .type "list", data := .seq ([] : List Value).toArray } } : Shared) = s3
  have J3 : Inv X pins σ (upd H2 D (.lst [])) s3 := by
    rw [← is3]
    refine J2.laid (t' := s2.toks) (fun b o r => Heap.get?_push_of_some _ r) (Nat.le_of_eq atD) ⟨Nat.zero_le _, [], 0, .nil, ?_⟩
    rw [← atD]
    exact Heap.get?_push_size _ rfl
  have h3 : s3.heap = s2.heap.push { cls := .type "list", data := .seq ([] : List Value).toArray } := by rw [← is3]
  have fpk : ∀ b ∈ fp, FpOk X pins (upd H2 D (.lst [])) b ∧ b < s3.heap.objs.size := fun b hb => by
    obtain ⟨o, r, _⟩ := T.obj _ _ tn2 b hb
    have lt := Heap.lt_size r
    refine ⟨⟨?_, (f2 b hb).2⟩, by rw [h3, Heap.size_push]; exact Nat.lt_succ_of_lt lt⟩
    rw [upd_ne (by rw [← atD]; exact Nat.ne_of_lt lt)]
    exact (f2 b hb).1
  have tn3 : tn 0 s3.heap := T.keep _ _ _ tn2 fun b _ o r => by rw [h3]; exact Heap.get?_push_of_some _ r
  have J4 := block_start J3 ok hN fpk
  generalize isclo : cellsFrom (s3.heap.objs.size + 1) sco.names (cloFrom X.env.cells sco.names []) = clo at J4
  have pg := hg s3 (upd H2 D (.lst [])) s3.heap.objs.size clo fp
  have pt := ht s3 (upd H2 D (.lst [])) s3.heap.objs.size clo fp
  have pe := he s3 (upd H2 D (.lst [])) s3.heap.objs.size clo fp
  have nofp : ∀ b ∈ fp, (upd H2 D (.lst [])) b = none := fun b hb => (fpk b hb).1.1
  show codeAny _ _ (.compStart (.ListComp elt [⟨tg, iter, ifs, 0⟩] sco pos) 0 (.ref it) (.ref D) (compEnvC sco clo s3.heap.objs.size X.env)) (postX (model X.prog X.w) X.A X.xe X.env.frame (EP X pins σ Q) (.ref D) s3.heap.objs.size) { s3 with heap := pushCells (s3.heap.push { cls := .type "dict", data := .dict #[] }) sco.names }
  generalize isce : compEnvC sco clo s3.heap.objs.size X.env = ce at J4 pg pt pe ⊢
  have locC : ce.locals = s3.heap.objs.size := by subst isce; rfl
  have frmC : ce.frame = X.env.frame := by subst isce; rfl
  generalize isH3 : upd H2 D (.lst []) = H3 at J3 J4 pg pt pe wst nofp fpk
  generalize is4 : ({ s3 with heap := pushCells (s3.heap.push { cls := .type "dict", data := .dict #[] }) sco.names } : Shared) = s4 at J4 ⊢
  have tn4 : tn 0 s4.heap := T.keep _ _ _ tn3 fun b _ o r => by rw [← is4]; exact pushCells_keeps _ _ _ _ (Heap.get?_push_of_some _ r)
  have stat : ∀ {σ' : L2.St} {H' : Hp} {s' : Shared}, Inv (X.blk s3 H3 sco ce fp) [] σ' H' s' → (∀ b ∈ fp, H' b = none) → ∀ b ∈ fp, FpOk (X.blk s3 H3 sco ce fp) [] H' b := fun {σ' H' s'} J' n b hb =>
    ⟨n b hb, (J'.ok.exf b hb).1, J'.ok.exfs b hb, .inl hb, fun x c r => (J'.ok.exf b hb).2 x c r, fun p hp => absurd (show p ∈ ([] : List (Addr × Obj)) ++ [] from hp) (by simp)⟩
  have peE := pe (notedBy (model X.prog X.w) X.A ce fun x t => postX (model X.prog X.w) X.A X.xe X.env.frame (EP X pins σ Q) (.ref D) s3.heap.objs.size (.error x) t) fun σb pb Hb sb u s' Ib cc => by
    have z := blk_out tk hst hfr J3 frmC locC fpk Ib cc (acc := .ref D) (Q := EP X pins σ Q)
    rw [frmC] at z
    exact z
  have loop : codeAny (model X.prog X.w) X.A (.compLoop (.ListComp elt [⟨tg, iter, ifs, 0⟩] sco pos) 0 (.ref it) (.ref D) ce) (postX (model X.prog X.w) X.A X.xe X.env.frame (EP X pins σ Q) (.ref D) s3.heap.objs.size) s4 := by
    refine compLoop_any (fun n s' => ∃ i H', Inv (X.blk s3 H3 sco ce fp) [] (wipe σ (own.map (·.2))) H' s' ∧ tn i s'.heap ∧ (∀ b ∈ fp, H' b = none) ∧ W i n H') (fun n s5 hw5 => ?_) m0 ⟨0, H3, J4, tn4, nofp, wst⟩
    obtain ⟨i, H5, J5, tn5, n5, wt5⟩ := hw5
    rcases turn i n H5 wt5 with ⟨stop, qq⟩ | ⟨go, Nx, nextW, step⟩
    · have td := T.done (X.blk s3 H3 sco ce fp) rfl rfl rfl hc i [] s5 _ H5 (fun _ _ => False) J5 (stat J5 n5) tn5 stop
      refine thnF td fun r s6 hr6 => ?_
      obtain ⟨hr, J6⟩ := hr6
      subst hr
      have J7 : Inv X pins σ H5 s6 := J3.call' (ch := fp) J6.os J6.base J6.hok J6.bare fun b hb => ⟨(fpk b hb).1.2.2.2.1, (fpk b hb).1.2.1, (fpk b hb).1.2.2.2.2.1, (fpk b hb).1.2.2.2.2.2⟩
      have nC : H5 ce.locals = none := J6.free
      obtain ⟨m, kn, _⟩ := J6.loc
      have kn : s6.heap.Ns ce.locals m := kn
      rw [locC] at nC kn
      obtain ⟨f0, f1, _, f5, f6, f7⟩ := J3.fpOk (Nat.le_refl _) nC
      exact ⟨m, kn, fun gg sb => ⟨.ref D, H5, J7.turned (t' := s6.toks) (fun b o hb r => (sb.2 b hb).trans r) f0 f1 f5 f6 f7, rfl, qq⟩⟩
    · have ti := T.item (X.blk s3 H3 sco ce fp) rfl rfl rfl hc i [] s5 _ H5 (fun _ _ => False) J5 (stat J5 n5) tn5 go
      refine thnF ti fun r s6 hr6 => ?_
      obtain ⟨u, hr, h6⟩ := hr6
      subst hr
      refine thnF h6 fun _ s7 hx7 => ?_
      obtain ⟨x, H7, J7, r7, y7, tn7, n7⟩ := hx7
      have I7' := J7.pinned (stat J7 n7) (T.obj _ _ tn7)
      refine thnF (pg.run _ s7 _ H7 x u _ I7' r7 (step x H7 y7)) fun _ s8 hx8 => ?_
      obtain ⟨σ8, H8, J8, hw8, q8⟩ := hx8
      refine thnF (pt.run _ s8 σ8 H8 _ J8 q8) fun b s9 hx9 => ?_
      obtain ⟨H9, J9, q9⟩ := hx9
      have fin : ∀ {s' : Shared} {H' : Hp}, Inv (X.blk s3 H3 sco ce fp) ([] ++ pinsAt fp s7.heap) σ8 H' s' → Nx H' → ∃ m, m < n ∧ ∃ i H', Inv (X.blk s3 H3 sco ce fp) [] (wipe σ (own.map (·.2))) H' s' ∧ tn i s'.heap ∧ (∀ b ∈ fp, H' b = none) ∧ W i m H' := fun {s' H'} J' nx => by
        obtain ⟨m', hm, w'⟩ := nextW H' nx
        have pin' : ∀ b ∈ fp, ∀ o, s7.heap.get? b = some o → s'.heap.get? b = some o ∧ H' b = none := fun b hb o r => by
          have z := J'.pin (b, o) (List.mem_append_right _ (List.mem_append_right _ (mem_pinsAt hb r)))
          exact ⟨z.1, z.2.1⟩
        have hl : (wipe σ (own.map (·.2))).length = σ8.length := by rw [← hw8, wipe_length]
        refine ⟨m', hm, i + 1, H', (J'.unpinned (pins := [])).weak hl (fun j v r => ?_), T.keep _ _ _ tn7 fun b hb o r => (pin' b hb o r).1, fun b hb => ?_, w'⟩
        · rw [← hw8] at r
          exact (wipe_some r).1
        · obtain ⟨o, r, _⟩ := T.obj _ _ tn7 b hb
          exact (pin' b hb o r).2
      cases b with
      | false =>
        simp only [Bool.false_eq_true, if_false] at q9 ⊢
        exact fin J9 q9
      | true =>
        simp only [if_true] at q9 ⊢
        refine thn (peE.run _ s9 σ8 H9 _ (J9.wish _) q9) fun z s10 hx10 => ?_
        obtain ⟨yv, H10, J10, r10, acc, hD10, hz10, nx⟩ := hx10
        exact app_ok (X := X.blk s3 H3 sco ce fp) J10.unwish hD10 hz10 r10 fun s11 J11 => fin J11 nx
  exact codeAny_compStart_list loop (T.self X.A 0 _ _ _ tn4 loop)
end
end Eyes

set_option Elab.async false
set_option linter.all false
set_option maxRecDepth 100000
set_option maxHeartbeats 4000000
/-! A call within a comprehension whose items may raise; a dict of the top. -/
namespace Eyes
open PySem PySem.Spec PyProof.Rows L2
section
variable {X : Cx} {x : Str} {st : Stmt} {ps : List Str} {sp : Sp} {e : Expr} {es : List Expr} {p pos : Pos} {t : TA} {Ew : XK}
theorem pcallXP {j k : Nat} (G : PrX X.prog X.w X.K X.mg X.base x st ps j sp) (hr : Room k X.A) (hx : ∀ σ, PassesAt (L2.CX X.prog X.w) X σ Ew) (ha : PA X (e :: es) t) (hj : j ≤ k := by first | decide | omega) (hg : Gl X x := by rfl)
    (hdb : (x == ("__debug__" : Str)) = false := by decide) (he : starEach (e :: es) X.env = (false, eval e X.env) :: starEach es X.env := by rfl) (hpl : (backTo pos (starEach es X.env)).any (·.1) = false := by rfl) :
    PE X (.Call (.Name x p) (e :: es) [] pos) (tCallS sp (fun _ => Ew) t) := by
  obtain ⟨f, fd, hm, F0, hb, F⟩ := G
  exact pe_callS (E := fun _ => Ew) F (hr.mono hj) hg hm F0.kp hb hx ha hdb he hpl
end
section
variable {X : Cx} {x : Str} {st : Stmt} {ps : List Str} {sp : Sp} {kws : List Keyword} {p pos : Pos} {tk : TA} {W : WX}
def tCallNX (m : Nat) (sp : Sp) (gV : List V → List V) (W : WX) (tk : TA) : TE := fun σ H Q => tk σ H fun zs H2 => zs.length = m ∧ sp (gV zs) H2 Q (WE W σ)
theorem pcallXN0 {j k : Nat} {ks : List Str} {is : List Nat} (G : PrX X.prog X.w X.K X.mg X.base x st ps j sp) (hk : KwOk x st ps 0 ks is) (hr : Room k X.A) (tx : Takes X W) (hkw : PK X kws tk) (hj : j ≤ k := by first | decide | omega) (hg : Gl X x := by rfl)
    (hall : (backToKw pos (keywordEach kws X.env)).all (·.1.isSome) = true := by rfl) (hks : (backToKw pos (keywordEach kws X.env)).filterMap (·.1) = ks := by rfl)
    (hdb : (x == ("__debug__" : Str)) = false := by decide)
    (hpl : ((backTo pos (starEach [] X.env)).any (·.1) || (backToKw pos (keywordEach kws X.env)).any (·.1.isNone)) = false := by rfl) :
    PE X (.Call (.Name x p) [] kws pos) (tCallNX ks.length sp (fun zs => pick is zs) W tk) := by
  obtain ⟨f, fd, hm, F0, hb, F⟩ := G
  refine ⟨fun pins s σ H Q I h => wpAny_Call_Name_kw (ld_glob I hg hm ?_ hdb)⟩
  refine PySem.W.callWith_KW0 (h₀ := X.base) I.ok.mod.kin F0.kp hall (thn (hkw.run pos pins s σ H _ I h) fun ws s2 ⟨zs, H2, I2, rz, l2, q2⟩ => ⟨I2.kIn, ?_⟩) hpl
  rw [hks]
  have kb := kbn (n := 0) F0 hk
  have r2 := kb.rel (us := []) (vs := []) .nil rz
  refine wpAny_call (codeAny_mono (F.run X.A X.stack s2 H2 ⟨[], ks.zip ws⟩ (pick is ([] ++ ws)) (pick is ([] ++ zs)) Q (WE W σ) (hr.mono hj) I2.env0 (kb.to s2 [] ws I2.kIn rfl (rz.length.symm.trans l2)) r2 q2) fun r s' hq => ?_)
  cases r with
  | error e => exact passAt tx σ pins H2 s2 e s' I2 hq
  | ok fl =>
    cases fl with
    | ret u => exact I2.after hq
    | next => exact False.elim hq
    | brk => exact False.elim hq
    | cont => exact False.elim hq
end
theorem kdct_of {K : PySem.W.Frag} {w : World} {P : Params} {a : Addr} {x y : Str} (h1 : ∃ es n, K.lookup a = some ⟨.type "dict", none, .dict es n, #[]⟩ ∧ PySem.W.KeysLit P es.toList) (hw : P = w.params) (h2 : ∃ t, PySem.W.nsIn K a x = some (some (.str y t))) : KDct K w a x (.str y) := by
  subst hw
  obtain ⟨es, n, h3, h4⟩ := h1
  obtain ⟨t, h5⟩ := h2
  exact ⟨es, n, _, h3, h4, h5, t, rfl⟩
end Eyes

set_option Elab.async false
set_option linter.all false
set_option maxRecDepth 100000
set_option maxHeartbeats 4000000
/-! A def may be called over a part of the heap: what is left out stays as it is. -/
namespace Eyes
open PySem PySem.Spec PyProof.Rows L2 Evl
def mrg (G G' H : Hp) : Hp := fun a => match G a with
  | some _ => G' a
  | none => match H a with
    | some o => some o
    | none => G' a
theorem mrg_in {G G' H : Hp} {a : Addr} {o : HO} (h : G a = some o) : mrg G G' H a = G' a := by
  unfold mrg
  rw [h]
theorem mrg_out {G G' H : Hp} {a : Addr} {o : HO} (h : G a = none) (e : H a = some o) : mrg G G' H a = some o := by
  unfold mrg
  rw [h, e]
theorem mrg_new {G G' H : Hp} {a : Addr} (h : G a = none) (e : H a = none) : mrg G G' H a = G' a := by
  unfold mrg
  rw [h, e]
structure Cl (G : Hp) : Prop where
  own : ∀ a C dx fs, G a = some (.ins C dx fs) → G dx = some (.own a)
  ins : ∀ a b, G b = some (.own a) → ∃ C fs, G a = some (.ins C b fs)
  dT : ∀ a kvs, G a ≠ some (.dT kvs)
  frz : ∀ a o u, G a ≠ some (.frz o u)
  tbl : ∀ a ps, G a ≠ some (.tbl ps)
def Own1 (G : Hp) : Prop := ∀ a C dx fs, G a = some (.ins C dx fs) → G dx = some (.own a)
def spFr (sp : Sp) : Sp := fun vs H Q _ => ∃ G : Hp, Ex G H ∧ Cl G ∧ sp vs G (fun v G' => (∀ a o, H a = some o → G a = none → G' a = none) → Own1 G' → Q v (mrg G G' H)) (fun _ _ _ => False)
section
variable {P : Program} {w : World} {G G' H H' : Hp} {h h' : Heap}
theorem HOk.sub (x : HOk P w H h) (e : Ex G H) (c : Cl G) : HOk P w G h := fun a o g => by
  have y := x a o (e a o g)
  cases o with
  | lst xs => exact y
  | tup xs => exact y
  | dK kvs => exact y
  | dT kvs => exact absurd g (c.dT a kvs)
  | set S n => exact y
  | ins C dx fs =>
    obtain ⟨_, y⟩ := y
    exact ⟨c.own a C dx fs g, y⟩
  | own z => exact y
  | xd fs => exact y
  | rng lo hi => exact y
  | frz ob u => exact absurd g (c.frz a ob u)
  | tbl ps => exact y
  | met f z => exact y
  | ext φ => exact y
theorem obj_of {H : Hp} {h : Heap} {a : Addr} {o : HO} (x : ObjOk P w H h a o) : ∃ ob, h.get? a = some ob := by
  cases o with
  | lst xs => obtain ⟨_, _, _, _, e⟩ := x; exact ⟨_, e⟩
  | tup xs => obtain ⟨_, _, _, ob, e, _⟩ := x; exact ⟨_, e⟩
  | dK kvs => obtain ⟨_, _, _, _, o, _, _, e, _⟩ := x; exact ⟨_, e⟩
  | dT kvs => obtain ⟨_, _, _, _, o, _, _, e, _⟩ := x; exact ⟨_, e⟩
  | set S n => obtain ⟨o, _, _, _, e, _⟩ := x; exact ⟨_, e⟩
  | ins C dx fs => obtain ⟨_, _, _, e, _⟩ := x; exact ⟨_, e⟩
  | own y => exact x
  | xd fs => obtain ⟨_, ⟨_, _, _, e, _⟩, _⟩ := x; exact ⟨_, e⟩
  | rng lo hi => obtain ⟨_, _, _, e⟩ := x; exact ⟨_, e⟩
  | frz ob u => obtain ⟨e, _⟩ := x; exact ⟨_, e⟩
  | tbl ps => exact ⟨_, (show h.get? a = some _ from x)⟩
  | met f y => exact ⟨_, (show h.get? a = some _ from x)⟩
  | ext φ => obtain ⟨_, e, _⟩ := x; exact e
theorem mrg_ex (u : ∀ a o, H a = some o → G a = none → G' a = none) : Ex G' (mrg G G' H) := fun a o e => by
  cases g : G a with
  | some o2 => rw [mrg_in g]; exact e
  | none =>
    cases k : H a with
    | some o2 =>
      have := u a o2 k g
      rw [this] at e
      cases e
    | none => rw [mrg_new g k]; exact e
theorem mrg_hok (x : HOk P w H h) (x' : HOk P w G' h') (e : Ex G H) (c : Cl G) (u : ∀ a o, H a = some o → G a = none → G' a = none) (ht : ∀ b xs, G b = some (.tup xs) → G' b = some (.tup xs))
    (kp : ∀ b o o2, h.get? b = some o → H b = some o2 → G b = none → h'.get? b = some o) : HOk P w (mrg G G' H) h' := fun a o q => by
  have tups : ∀ b xs, H b = some (.tup xs) → mrg G G' H b = some (.tup xs) := fun b xs z => by
    cases g : G b with
    | some o2 =>
      have := e b o2 g
      rw [z] at this
      cases this
      rw [mrg_in g]
      exact ht b xs g
    | none => exact mrg_out g z
  have inner : G' a = some o → ObjOk P w (mrg G G' H) h' a o := fun q2 =>
    (x' a o q2).stay (fun b u _ r => r) (fun b r => mrg_ex u b _ r) (fun b xs r => mrg_ex u b _ r)
  cases g : G a with
  | some o2 =>
    rw [mrg_in g] at q
    exact inner q
  | none =>
    cases k : H a with
    | some o2 =>
      rw [mrg_out g k] at q
      cases q
      have y := x a o k
      have no : ∀ b, H b = some (.own a) → G b = none := fun b hb => by
        cases gb : G b with
        | none => rfl
        | some o3 =>
          have := e b o3 gb
          rw [hb] at this
          cases this
          obtain ⟨C, fs, hi⟩ := c.ins a b gb
          rw [g] at hi
          cases hi
      refine y.stay (fun b u hb r => ?_) (fun b hb => mrg_out (no b hb) hb) tups
      rcases hb with rfl | hb
      · exact kp b u o r k g
      · exact kp b u _ r hb (no b hb)
    | none =>
      rw [mrg_new g k] at q
      exact inner q
end
section
variable {P : Program} {w : World} {K : PySem.W.Frag} {mg : Str → Option Value} {base : Heap}
theorem FnOk.frame {CX : CXT} (hcx : ∀ {outer : List Env} {s : Shared} {H : Hp} {e : Value} {s' : Shared}, CX outer H s (fun _ _ _ => False) e s' → False) {k : Nat} {f : Addr} {fd : FuncData} {ps : List Str} {sp : Sp} (F : FnOk P w K mg base CX k f fd ps sp) : FnOk P w K mg base CX0 k f fd ps (spFr sp) := by
  refine ⟨fun vs H Q E h => ?_, fun A outer s H args us vs Q E hr e0 hb hv h => ?_⟩
  · obtain ⟨G, _, _, h⟩ := h
    exact F.len _ _ _ _ h
  · obtain ⟨G, e, c, h⟩ := h
    have none_ : ∀ {b : Addr}, H b = none → G b = none := fun {b} z => fresh_back e z
    have e1 : Env0 P w K mg base A outer s G := ⟨e0.frames, e0.mod, fun b o q => ⟨(e0.bs b o q).1, none_ (e0.bs b o q).2⟩, e0.bsz, e0.funs, fun b hb => none_ (e0.frf b hb), HOk.sub e0.hok e c, e0.bare⟩
    refine codeAny_mono (F.run A outer s G args us vs _ _ hr e1 hb hv h) fun r s' hq => ?_
    cases r with
    | error er => exact (hcx hq).elim
    | ok fl =>
      cases fl with
      | next => exact hq
      | brk => exact hq
      | cont => exact hq
      | ret u =>
        obtain ⟨v, G', os, bare, un, hok, rv, q⟩ := hq
        have nex : ∀ {b : Addr}, b ∉ ([] : List Addr) := fun {b} z => nomatch z
        have at_ : ∀ b o, H b = some o → ∃ ob, s.heap.get? b = some ob := fun b o hb => obj_of (e0.hok b o hb)
        have uf : ∀ a o, H a = some o → G a = none → G' a = none := fun a o ha ga => by
          obtain ⟨ob, hob⟩ := at_ a o ha
          exact un.free a ob hob ga nex
        have own1 : Own1 G' := fun a C dx fs g => by
          obtain ⟨z, _⟩ := hok a _ g
          exact z
        refine ⟨v, mrg G G' H, os, bare, ?_, ?_, rv, q uf own1⟩
        · refine ⟨fun b o hb n hfs hx => un.keep b o hb (none_ n) hfs hx, fun b o hb n hfs hx => un.slot b o hb (none_ n) hfs hx, fun b o hb n hx => ?_, un.there, fun b xs hb => ?_, fun b o u2 hb => ?_, fun b ps hb => ?_⟩
          · rw [mrg_new (none_ n) n]
            exact un.free b o hb (none_ n) hx
          · cases g : G b with
            | some o2 =>
              have := e b o2 g
              rw [hb] at this
              cases this
              rw [mrg_in g]
              exact un.tups b xs g
            | none => exact mrg_out g hb
          · cases g : G b with
            | some o2 =>
              have := e b o2 g
              rw [hb] at this
              cases this
              rw [mrg_in g]
              exact un.frzs b o u2 g
            | none => exact mrg_out g hb
          · cases g : G b with
            | some o2 =>
              have := e b o2 g
              rw [hb] at this
              cases this
              rw [mrg_in g]
              exact un.tbls b ps g
            | none => exact ⟨#[], by rw [mrg_out g hb]; simp⟩
        · refine mrg_hok e0.hok hok e c uf un.tups fun b o o2 hb h2 gb => un.keep b o hb gb (fun hf => ?_) nex
          have := e0.frf b hf
          rw [h2] at this
          cases this
theorem Pr.frame {x : Str} {st : Stmt} {ps : List Str} {k : Nat} {sp : Sp} (G : Pr P w K mg base x st ps k sp) : Pr P w K mg base x st ps k (spFr sp) := by
  obtain ⟨f, fd, hm, F, hb, R⟩ := G
  exact ⟨f, fd, hm, F, hb, FnOk.frame (fun z => z) R⟩
theorem PrX.frame {x : Str} {st : Stmt} {ps : List Str} {k : Nat} {sp : Sp} (G : PrX P w K mg base x st ps k sp) : Pr P w K mg base x st ps k (spFr sp) := by
  obtain ⟨f, fd, hm, F, hb, R⟩ := G
  exact ⟨f, fd, hm, F, hb, FnOk.frame noneX R⟩
end
end Eyes

set_option Elab.async false
set_option linter.all false
set_option maxRecDepth 100000
set_option maxHeartbeats 4000000
/-! The frame rule for a def that may raise. -/
namespace Eyes
open PySem PySem.Spec PyProof.Rows L2 Evl
def spFrX (sp : Sp) : Sp := fun vs H Q E => ∃ G : Hp, Ex G H ∧ Cl G ∧ sp vs G (fun v G' => (∀ a o, H a = some o → G a = none → G' a = none) → Own1 G' → Q v (mrg G G' H)) (fun cls d G' => (∀ a o, H a = some o → G a = none → G' a = none) → Own1 G' → E cls d (mrg G G' H))
section
variable {P : Program} {w : World} {K : PySem.W.Frag} {mg : Str → Option Value} {base : Heap}
theorem mrg_tup {G G' H : Hp} (e : Ex G H) (t : ∀ b xs, G b = some (.tup xs) → G' b = some (.tup xs)) (b : Addr) (xs : List V) (hb : H b = some (.tup xs)) : mrg G G' H b = some (.tup xs) := by
  cases g : G b with
  | some o2 =>
    have := e b o2 g
    rw [hb] at this
    cases this
    rw [mrg_in g]
    exact t b xs g
  | none => exact mrg_out g hb
theorem mrg_frz {G G' H : Hp} (e : Ex G H) (t : ∀ b o u, G b = some (.frz o u) → G' b = some (.frz o u)) (b : Addr) (o : Obj) (u2 : HO) (hb : H b = some (.frz o u2)) : mrg G G' H b = some (.frz o u2) := by
  cases g : G b with
  | some o2 =>
    have := e b o2 g
    rw [hb] at this
    cases this
    rw [mrg_in g]
    exact t b o u2 g
  | none => exact mrg_out g hb
theorem mrg_tbl {G G' H : Hp} (e : Ex G H) (t : ∀ b ps, G b = some (.tbl ps) → ∃ more, G' b = some (.tbl (ps ++ more))) (b : Addr) (ps) (hb : H b = some (.tbl ps)) : ∃ more, mrg G G' H b = some (.tbl (ps ++ more)) := by
  cases g : G b with
  | some o2 =>
    have := e b o2 g
    rw [hb] at this
    cases this
    rw [mrg_in g]
    exact t b ps g
  | none => exact ⟨#[], by rw [mrg_out g hb]; simp⟩
theorem FnOk.frameX {k : Nat} {f : Addr} {fd : FuncData} {ps : List Str} {sp : Sp} (F : FnOk P w K mg base (L2.CX P w) k f fd ps sp) : FnOk P w K mg base (L2.CX P w) k f fd ps (spFrX sp) := by
  refine ⟨fun vs H Q E h => ?_, fun A outer s H args us vs Q E hr e0 hb hv h => ?_⟩
  · obtain ⟨G, _, _, h⟩ := h
    exact F.len _ _ _ _ h
  · obtain ⟨G, e, c, h⟩ := h
    have none_ : ∀ {b : Addr}, H b = none → G b = none := fun {b} z => fresh_back e z
    have e1 : Env0 P w K mg base A outer s G := ⟨e0.frames, e0.mod, fun b o q => ⟨(e0.bs b o q).1, none_ (e0.bs b o q).2⟩, e0.bsz, e0.funs, fun b hb => none_ (e0.frf b hb), HOk.sub e0.hok e c, e0.bare⟩
    have at_ : ∀ b o, H b = some o → ∃ ob, s.heap.get? b = some ob := fun b o hb => obj_of (e0.hok b o hb)
    have nfr : ∀ {b : Addr} {o : HO}, H b = some o → b ∉ frs outer := fun {b o} h2 hf => by
      have := e0.frf b hf
      rw [h2] at this
      cases this
    refine codeAny_mono (F.run A outer s G args us vs _ _ hr e1 hb hv h) fun r s' hq => ?_
    cases r with
    | error er =>
      obtain ⟨a, B, G', cls, d, rfl, fl, hok, ub, na, os, ag, hE⟩ := hq
      have uf : ∀ a o, H a = some o → G a = none → G' a = none := fun a o ha ga => by
        obtain ⟨ob, hob⟩ := at_ a o ha
        exact ub.free a ob hob ga
      have own1 : Own1 G' := fun a C dx fs g => by
        obtain ⟨z, _⟩ := hok a _ g
        exact z
      refine ⟨a, B, mrg G G' H, cls, d, rfl, fl, ?_, ?_, ?_, os, ag, hE uf own1⟩
      · exact mrg_hok e0.hok hok e c uf ub.tups fun b o o2 hb h2 gb => ub.keep b o hb gb (nfr h2)
      · refine ⟨fun b o hb n hfs => ub.keep b o hb (none_ n) hfs, ub.slot, fun b o hb n => ?_, ub.there, mrg_tup e ub.tups, mrg_frz e ub.frzs, mrg_tbl e ub.tbls⟩
        rw [mrg_new (none_ n) n]
        exact ub.free b o hb (none_ n)
      · cases g : G a with
        | some o2 =>
          rw [mrg_in g]
          exact na
        | none =>
          cases k : H a with
          | none =>
            rw [mrg_new g k]
            exact na
          | some o2 =>
            obtain ⟨ob, hob⟩ := at_ a o2 k
            have h1 := ub.keep a ob hob g (nfr k)
            have h2 := fl.2.1
            rw [h1] at h2
            cases h2
    | ok fl =>
      cases fl with
      | next => exact hq
      | brk => exact hq
      | cont => exact hq
      | ret u =>
        obtain ⟨v, G', os, bare, un, hok, rv, q⟩ := hq
        have nex : ∀ {b : Addr}, b ∉ ([] : List Addr) := fun {b} z => nomatch z
        have uf : ∀ a o, H a = some o → G a = none → G' a = none := fun a o ha ga => by
          obtain ⟨ob, hob⟩ := at_ a o ha
          exact un.free a ob hob ga nex
        have own1 : Own1 G' := fun a C dx fs g => by
          obtain ⟨z, _⟩ := hok a _ g
          exact z
        refine ⟨v, mrg G G' H, os, bare, ?_, ?_, rv, q uf own1⟩
        · refine ⟨fun b o hb n hfs hx => un.keep b o hb (none_ n) hfs hx, fun b o hb n hfs hx => un.slot b o hb (none_ n) hfs hx, fun b o hb n hx => ?_, un.there, mrg_tup e un.tups, mrg_frz e un.frzs, mrg_tbl e un.tbls⟩
          rw [mrg_new (none_ n) n]
          exact un.free b o hb (none_ n) hx
        · exact mrg_hok e0.hok hok e c uf un.tups fun b o o2 hb h2 gb => un.keep b o hb gb (nfr h2) nex
theorem PrX.frameX {x : Str} {st : Stmt} {ps : List Str} {k : Nat} {sp : Sp} (G : PrX P w K mg base x st ps k sp) : PrX P w K mg base x st ps k (spFrX sp) := by
  obtain ⟨f, fd, hm, F, hb, R⟩ := G
  exact ⟨f, fd, hm, F, hb, FnOk.frameX R⟩
end
end Eyes

set_option Elab.async false
set_option linter.all false
set_option maxRecDepth 100000
set_option maxHeartbeats 4000000
/-! Lambdas handed on through several defs. -/
namespace Eyes
open PySem PySem.Spec PyProof.Rows L2 LamX
def CallF (P : Program) (w : World) (K : PySem.W.Frag) (mg : Str → Option Value) (base : Heap) (k : Nat) (fr : List Addr) (H0 : Hp) (h0 : Heap) (f c' : Addr) (q : Str) (tl : XK → Hp → VK → Prop) : Prop :=
  ∀ (A : Around) (outer : List Env) (s1 : Shared) (HZ : Hp) (Q : VK) (E : XK), Room (k + 1) A → Env0 P w K mg base A outer s1 HZ → Un fr [] H0 HZ h0 s1.heap → HZ c' = some (CodeO c' q) → tl E HZ Q →
    PySem.W.FnAt f s1.heap ∧ codeAny (model P w) A (.call (.ref f) ⟨[], []⟩) (CR (L2.CX P w) outer P w HZ s1 Q E) s1
section
variable {X : Cx} {pins : List (Addr × Obj)} {σ : L2.St} {H : Hp} {s : Shared}
theorem callF_of {f c' : Addr} {pm ctv : Value} {params : Arguments} {body : Expr} {scope : Scope} {k : Nat} {tb : XK → TE}
    (I : Inv X pins σ H s) (L : LamS X.env.scope scope) (hf : s.heap.get? f = some (PySem.W.kla_obj "<lambda>" (X.env.qual ++ "<lambda>") params body scope (cloFrom X.env.cells scope.names []) pm c' ctv)) (hfn : H f = none) (hfr : f ∉ frs X.stack)
    (hbind : bindArgs (PySem.W.kla_fn "<lambda>" (X.env.qual ++ "<lambda>") params body scope (cloFrom X.env.cells scope.names []) pm (.ref c') ctv) ⟨[], []⟩ = pure [])
    (hbody : ∀ (A : Around) (outer : List Env) (s : Shared) (H : Hp) (E : XK), Room k (A.deeper (lamEnv X scope s.heap.objs.size f c')) → PE (lamCx X A outer s H E scope f c') body (tb E)) :
    CallF X.prog X.w X.K X.mg X.base k (frs X.stack) H s.heap f c' (X.env.qual ++ "<lambda>") (fun E HZ Q => tb E σ HZ Q) := by
  intro A outer s1 HZ Q E hr e0 un hc ht
  have of1 : s1.heap.get? f = some (PySem.W.kla_obj "<lambda>" (X.env.qual ++ "<lambda>") params body scope (cloFrom X.env.cells scope.names []) pm c' ctv) := un.keep f _ hf hfn hfr (fun z => nomatch (show f ∈ ([] : List Addr) from z))
  obtain ⟨⟨oc, vs, t, hoc, hdc, hvc⟩, _, _⟩ := e0.hok c' _ hc
  have lim : s1.heap.NoLimit := e0.mod.nolimit.keeps fun b o e => (e0.bs b o e).1
  refine ⟨⟨_, _, _, _, of1⟩, ?_⟩
  refine PySem.W.kla_callFunE hr.depth of1 rfl L.co L.gen rfl ⟨c', oc, vs, t, rfl, hoc, hdc, hvc⟩ ?_
  rw [hbind]
  refine wpAny_pure (wpAny_newFunctionEnv (fun y hy => (L.own y hy).2) (fun y hy => absurd hy (by simp)) (fun h₁ hns hsb => ⟨lim.fresh _ hsb, ?_⟩) L.kind)
  show codeAny _ _ (.expr body (lamEnv X scope s1.heap.objs.size f c')) _ _
  have kp : ∀ b o, s1.heap.get? b = some o → h₁.get? b = some o := fun b o e => hsb.extBut b o (Nat.ne_of_lt (Heap.lt_size e)) (Heap.get?_push_of_some _ e)
  have J : Inv (lamCx X A outer s1 HZ E scope f c') [] σ HZ { s1 with heap := h₁, toks := s1.toks + ([] : List (Str × Value)).length } :=
    lam_start2 I L e0 hr.hd un hns kp
  refine PySem.W.kla_codeExpr (wpAny_mono ((hbody _ _ s1 HZ E (hr.deeper _)).run [] _ _ HZ Q J ht) (fun v s' hq => ?_) fun e s' hq => hq)
  obtain ⟨w', H', J', rv, q⟩ := hq
  exact ⟨w', H', J'.os, J'.bare, J'.base, J'.hok, rv, q⟩
end
theorem CallF.step {P : Program} {w : World} {K : PySem.W.Frag} {mg : Str → Option Value} {base : Heap} {k : Nat} {fr fr' : List Addr} {H0 H1 : Hp} {h0 h1 : Heap} {f c' : Addr} {q : Str} {tl : XK → Hp → VK → Prop} (C : CallF P w K mg base k fr H0 h0 f c' q tl) (u : Un fr [] H0 H1 h0 h1)
    (hs : ∀ b ∈ fr', b ∈ fr ∨ h0.get? b = none) (hs2 : ∀ b ∈ fr, b ∈ fr') : CallF P w K mg base k fr' H1 h1 f c' q tl := by
  intro A outer s1 HZ Q E hr e0 un hc ht
  have v := (u.mono (fs' := fr') (ex' := []) hs2 fun _ z => z).trans un
  exact C A outer s1 HZ Q E hr e0 ⟨fun b o q n hb hx => v.keep b o q n (fun z => (hs b z).elim hb fun z2 => by rw [z2] at q; cases q) hx, fun b o q n hb hx => v.any q n hx, v.free, v.there, v.tups, v.frzs, v.tbls⟩ hc ht
theorem pe_ask {CXg : CXT} {P : Program} {w : World} {K : PySem.W.Frag} {mg : Str → Option Value} {base : Heap} {Eg : XK} {Ng : List Str} {qg : Str} {sg : Scope} {g f c' : Addr} {cdg : Value} {A : Around} {outer : List Env} {s : Shared} {H : Hp} {k i : Nat} {a q : Str} {pn : List (Addr × Obj)} {xe : Value → Shared → Prop} {W : WX} {E : XK} {tl : XK → Hp → VK → Prop} {p1 p2 : Pos}
    (C : CallF P w K mg base k (frs outer) H s.heap f c' q tl)
    (tk : Takes ((cxOf CXg P w K mg base Ng qg sg g cdg A outer s H Eg).tr pn xe) W) (hW : ∀ cls d σ' H', E cls d H' → W cls d σ' H') (hr : Room (k + 1) (A.deeper (envOfC qg sg s.heap.objs.size g cdg)))
    (hN : Ng[i]? = some a) (hv : Vis sg a) (hd : (a == ("__debug__" : Str)) = false := by decide) (hcd : (a == ("__classdict__" : Str)) = false := by decide) :
    PE ((cxOf CXg P w K mg base Ng qg sg g cdg A outer s H Eg).tr pn xe) (.Call (.Name a p1) [] [] p2)
      (fun σZ HZ Q => σZ[i]? = some (some (.ref f)) ∧ HZ c' = some (CodeO c' q) ∧ tl E HZ Q) := by
  refine ⟨fun pinsZ sZ σZ HZ Q IZ h => ?_⟩
  obtain ⟨hs, hc, ht⟩ := h
  refine wpAny_Call_Name_kw (thn ((pe_var (pos := p1) (i := i) hN hv hd hcd).run pinsZ sZ σZ HZ (fun v H1 => v = .ref f ∧ H1 = HZ) IZ ⟨.ref f, hs, rfl, rfl⟩) fun u s1 ⟨v, H1, I1, r1, q1⟩ => ?_)
  obtain ⟨ev, eH⟩ := q1
  subst ev
  rw [eH] at I1
  obtain rfl : u = Value.ref f := r1
  have un : Un (frs outer) [] H HZ s.heap s1.heap := I1.base
  obtain ⟨fa, rc⟩ := C _ _ s1 HZ Q E hr I1.env0 un hc ht
  refine PySem.W.callWith_F0 fa ?_
  have hx : Passes (L2.CX P w) ((cxOf CXg P w K mg base Ng qg sg g cdg A outer s H Eg).tr pn xe) E := passes_call tk hW
  refine wpAny_call (codeAny_mono rc fun r s' hq => ?_)
  cases r with
  | error e => exact hx pinsZ σZ HZ s1 e s' I1 hq
  | ok fl =>
    cases fl with
    | ret u => exact I1.after hq
    | next => exact False.elim hq
    | brk => exact False.elim hq
    | cont => exact False.elim hq
def FnC (P : Program) (w : World) (K : PySem.W.Frag) (mg : Str → Option Value) (base : Heap) (kk k : Nat) (g : Addr) (TT : (XK → Hp → VK → Prop) → Hp → VK → Prop) : Prop :=
  ∀ (A : Around) (outer : List Env) (s : Shared) (H : Hp) (f c' : Addr) (q : Str) (tl : XK → Hp → VK → Prop) (Q : VK), Room k A → Env0 P w K mg base A outer s H → CallF P w K mg base kk (frs outer) H s.heap f c' q tl → H c' = some (CodeO c' q) → TT tl H Q →
    codeAny (model P w) A (.call (.ref g) ⟨[.ref f], []⟩) (CR C8.CX0 outer P w H s Q C8.E0) s
def PrC (P : Program) (w : World) (K : PySem.W.Frag) (mg : Str → Option Value) (base : Heap) (x : Str) (kk k : Nat) (TT : (XK → Hp → VK → Prop) → Hp → VK → Prop) : Prop :=
  ∃ g : Addr, mg x = some (.ref g) ∧ PySem.W.keepIn K (.ref g) = true ∧ FnC P w K mg base kk k g TT
theorem prC_mk {P : Program} {w : World} {K : PySem.W.Frag} {mg : Str → Option Value} {base : Heap} {x a : Str} {st : Stmt} {N : List Str} {kk k : Nat} {TT : (XK → Hp → VK → Prop) → Hp → VK → Prop} (FA : FnAt K mg x st [a]) (S : FnScope N [a] (defScope st))
    (hbody : ∀ (g : Addr) (cdg : Value) (A : Around) (outer : List Env) (s : Shared) (H : Hp) (f c' : Addr) (q : Str) (tl : XK → Hp → VK → Prop) (Q : VK), Room k (A.deeper (envOfC x (defScope st) s.heap.objs.size g cdg)) → CallF P w K mg base kk (frs outer) H s.heap f c' q tl → H c' = some (CodeO c' q) → TT tl H Q →
      ∃ t, PSs (cxOf C8.CX0 P w K mg base N x (defScope st) g cdg A outer s H C8.E0).nox (defBody st) t ∧ t { nx := fun _ H' => Q .non H', rt := Q } (L2.start N [.ref f]) H) : PrC P w K mg base x kk (k + 1) TT := by
  obtain ⟨g, fd, F, hb, hm⟩ := FA
  refine ⟨g, hm, F.kp, fun A outer s H f c' q tl Q hr e0 C hc ht => ?_⟩
  obtain ⟨oc, od, kV, doc, pm, an, cdv, ct, osl, rfl, lk, hcd⟩ := F.ex
  have KX : K.In s.heap := e0.mod.kin.keeps fun b o e => (e0.bs b o e).1
  refine run_ofS (N := N) (ps := [a]) (us := [.ref f]) (vs := [.ref f]) lk hcd S hr e0 (hb s [.ref f] KX rfl) (.cons rfl .nil) rfl fun hr' => ?_
  obtain ⟨t', ht', hq'⟩ := hbody g cdv A outer s H f c' q tl Q hr' C hc ht
  exact ⟨t', ht'.nox, hq'⟩
theorem pe_hand {CXg : CXT} {P : Program} {w : World} {K : PySem.W.Frag} {mg : Str → Option Value} {base : Heap} {Eg : XK} {Ng : List Str} {qg : Str} {sg : Scope} {g f c' : Addr} {cdg : Value} {A : Around} {outer : List Env} {s : Shared} {H : Hp} {kk j k i : Nat} {a q x : Str} {tl : XK → Hp → VK → Prop} {TT : (XK → Hp → VK → Prop) → Hp → VK → Prop} {p0 p1 p2 : Pos}
    (G : PrC P w K mg base x kk j TT) (C : CallF P w K mg base kk (frs outer) H s.heap f c' q tl) (hr : Room k (A.deeper (envOfC qg sg s.heap.objs.size g cdg))) (hN : Ng[i]? = some a) (hv : Vis sg a) (hj : j ≤ k := by first | decide | omega)
    (hg : Gl (cxOf CXg P w K mg base Ng qg sg g cdg A outer s H Eg).nox x := by rfl) (hdb : (x == ("__debug__" : Str)) = false := by decide) (hd : (a == ("__debug__" : Str)) = false := by decide) (hcd : (a == ("__classdict__" : Str)) = false := by decide) :
    PE (cxOf CXg P w K mg base Ng qg sg g cdg A outer s H Eg).nox (.Call (.Name x p0) [.Name a p1] [] p2)
      (fun σZ HZ Q => σZ[i]? = some (some (.ref f)) ∧ HZ c' = some (CodeO c' q) ∧ TT tl HZ Q) := by
  obtain ⟨gx, hm, hk, F⟩ := G
  refine ⟨fun pinsZ sZ σZ HZ Q IZ h => ?_⟩
  obtain ⟨hs, hc, ht⟩ := h
  refine wpAny_Call_Name_kw (ld_glob IZ hg hm ?_ hdb)
  refine PySem.W.callWith_K (h₀ := base) IZ.ok.mod.kin hk ?_ (by rfl) (by rfl)
  refine Calls.spliced_cons (thn ((pe_var (pos := p1) (i := i) hN hv hd hcd).run pinsZ sZ σZ HZ (fun v H1 => v = .ref f ∧ H1 = HZ) IZ ⟨.ref f, hs, rfl, rfl⟩) fun u s1 ⟨v, H1, I1, r1, q1⟩ => ?_)
  obtain ⟨ev, eH⟩ := q1
  subst ev
  rw [eH] at I1
  obtain rfl : u = Value.ref f := r1
  refine Calls.spliced_nil ⟨I1.kIn, ?_⟩
  have un : Un (frs outer) [] H HZ s.heap s1.heap := I1.base
  have rc := F (A.deeper (envOfC qg sg s.heap.objs.size g cdg)) _ s1 HZ f c' q tl Q (hr.mono hj) I1.env0 (C.step un (fun b hb => ?_) (fun b hb => ?_)) hc ht
  · refine wpAny_call (codeAny_mono rc fun r s2 hq => ?_)
    cases r with
    | error e => exact (show False from hq).elim
    | ok fl =>
      cases fl with
      | ret u => exact I1.after hq
      | next => exact False.elim hq
      | brk => exact False.elim hq
      | cont => exact False.elim hq
  · rcases List.mem_cons.mp (show b ∈ s.heap.objs.size :: frs outer from hb) with e | e
    · exact .inr (by rw [e]; exact Heap.get?_none_of_le (Nat.le_refl _))
    · exact .inl e
  · exact List.mem_cons_of_mem _ hb
section
variable {X : Cx}
theorem pe_lamh {T : List (Addr × Str)} {TT : (XK → Hp → VK → Prop) → Hp → VK → Prop} {x : Str} {c P : Addr} {kk j k : Nat} {params : Arguments} {body : Expr} {scope : Scope} {t : XK → TE} {p lpos pos : Pos} (G : PrC X.prog X.w X.K X.mg X.base x kk j TT) (hg : Gl X x)
    (TB : TabB X.base X.mg c P) (hcode : X.env.code = .ref c) (hmT : (P, X.env.qual ++ "<lambda>") ∈ T) (hu : ∀ p ∈ T, p.1 = P → p.2 = X.env.qual ++ "<lambda>") (hr : Room k X.A) (hj : j ≤ k) (L : LamS X.env.scope scope) (hdef : defaultsOf params X.env = ([], []))
    (hbind : ∀ (q : Str) (cl : List (Str × Addr)) (pm cv ctv : Value), bindArgs (PySem.W.kla_fn "<lambda>" q params body scope cl pm cv ctv) ⟨[], []⟩ = pure [])
    (hbody : ∀ (A : Around) (outer : List Env) (s : Shared) (H : Hp) (E : XK) (f c' : Addr), Room kk (A.deeper (lamEnv X scope s.heap.objs.size f c')) → PE (lamCx X A outer s H E scope f c') body (t E))
    (hdb : (x == ("__debug__" : Str)) = false := by decide) :
    PE X (.Call (.Name x p) [.Lambda params body scope lpos] [] pos) (tLam T TT t) := by
  obtain ⟨g, hm, hk, F⟩ := G
  refine ⟨fun pins s σ H Q I h => ?_⟩
  obtain ⟨hT, h⟩ := h
  refine wpAny_Call_Name_kw (ld_glob I hg hm ?_ hdb)
  refine PySem.W.callWith_K (h₀ := X.base) I.ok.mod.kin hk ?_ (by rfl) (by rfl)
  show wpAny _ _ (spliced ((false, eval (.Lambda params body scope lpos) X.env) :: backTo pos (starEach [] X.env))) _ _ s
  refine Calls.spliced_cons (lam_make2 I TB hcode hmT hu hT hdef (L.has I.ok) fun f c' pm' ctv H1 s' I1 eN T1 hf hfn hfr hco => ?_)
  refine Calls.spliced_nil ⟨I1.kIn, ?_⟩
  have rc := F X.A X.stack s' H1 f c' (X.env.qual ++ "<lambda>") (fun E H' Q' => t E σ H' Q') Q (hr.mono hj) I1.env0 (callF_of (k := kk) I1 L hf hfn hfr (hbind _ _ _ _ _) fun A outer s H E hr2 => hbody A outer s H E f c' hr2) hco (h H1 eN T1)
  refine wpAny_call (codeAny_mono rc fun r s2 hq => ?_)
  cases r with
  | error e => exact (show False from hq).elim
  | ok fl =>
    cases fl with
    | ret u => exact I1.after hq
    | next => exact False.elim hq
    | brk => exact False.elim hq
    | cont => exact False.elim hq
end
end Eyes

set_option Elab.async false
set_option linter.all false
set_option maxRecDepth 100000
set_option maxHeartbeats 4000000
/-! A lambda whose one parameter has a number as its default, made and handed on. -/
namespace Eyes
open PySem PySem.Spec PyProof.Rows L2 LamX
abbrev fnL (q : Str) (params : Arguments) (body : Expr) (scope : Scope) (cl : List (Str × Addr)) (dV pm cdv ctv : Value) : FuncData :=
  { name := "<lambda>", qualname := q, params, body := .expr body, scope, globals := mainGlobals, closure := cl, defaults := dV, kwdefaults := .none, doc := .none, pyModule := pm, annotations := none, code := cdv, closureTuple := ctv, builtins := builtinsNs }
abbrev obL (q : Str) (params : Arguments) (body : Expr) (scope : Scope) (cl : List (Str × Addr)) (dV pm cdv ctv : Value) : Obj := { cls := .type "function", data := .func (fnL q params body scope cl dV pm cdv ctv) }
abbrev obT (u : Value) : Obj := { cls := .type "tuple", data := .seq [u].toArray }
section
variable {M : Model} {A : Around} {E : Value → Shared → Prop} {s : Shared} {q : Str} {params : Arguments} {body : Expr} {scope : Scope} {env : Env} {c P : Addr} {ps : Array Value} {pos : Pos} {line : Nat} {mg : Str → Option Value} {cl : List (Str × Addr)} {Q : Value → Shared → Prop} {dV : Value}
theorem tail_new (hcl : closureFor scope env = pure cl) (eg : env.globals = mainGlobals) (g : s.heap.Ns mainGlobals mg) (ec : env.code = .ref c) (C : PySem.W.CodeHd s.heap c P) (eP : s.heap.get? P = some (PySem.W.tabObj ps)) (ht : TriplesOk ps.toList)
    (nf : codeAmong pos ps.toList = none) (gP : mainGlobals ≠ P) (bl : s.heap.BuiltinsAt mg P)
    (fin : ∀ (c' : Addr) (ctv : Value) (g' : Heap) (tk : Tok), Heap.ExtBut P s.heap g' → s.heap.objs.size ≤ c' → c' < g'.objs.size → g'.CodeRec (.ref c') q → g'.get? P = some (PySem.W.tabObj (ps ++ #[rawInt pos.line, rawInt pos.col, .ref c'])) →
      Q (.ref g'.objs.size) { s with heap := g'.push (obL q params body scope cl dV ((mg "__name__").getD .none) (.ref c') ctv), toks := tk }) :
    wpAny M A (makeTail "<lambda>" q params (.expr body) scope env dV .none none pos line) Q E s := by
  obtain ⟨b1, b2, k1, k2, k3, k4, k5, k6, k7, k8⟩ := bl
  unfold makeTail
  rw [hcl, eg]
  refine wpAny_bind (wpAny_pure ?_)
  cases cl with
  | nil =>
    simp only [List.isEmpty_nil, if_true]
    refine wpAny_bind (wpAny_pure (wpAny_bind (wpAny_functionCodeX ec (C.code eP ht) (C.tab eP) nf fun c' g' tk hx h1 h2 _ h3 h4 _ => ?_)))
    have G := g.extBut hx gP
    exact wpAny_bind (wpAny_builtinsFor G k1 k2 (hx _ _ k4 k5) k6 k7 k8 (wpAny_bind (wpAny_nsGet G (wpAny_bind (wpAny_pure (wpAny_newObj_type (fin c' .none g' tk hx h1 h2 h3 h4.2) (by size_fits)))))))
  | cons y r =>
    simp only [List.isEmpty_cons, Bool.false_eq_true, if_false]
    refine wpAny_bind (wpAny_newTextTuple (wpAny_bind (wpAny_functionCodeX ec ((C.keeps fun b o e => Heap.get?_push_of_some _ e).code (Heap.get?_push_of_some _ eP) ht) ((C.keeps fun b o e => Heap.get?_push_of_some _ e).tab (Heap.get?_push_of_some _ eP)) nf fun c' g' tk hx h1 h2 _ h3 h4 _ => ?_)))
    have G := (g.push _).extBut hx gP
    have old : Heap.ExtBut P s.heap g' := fun b o n e => hx b o n (Heap.get?_push_of_some _ e)
    have up : s.heap.objs.size ≤ c' := Nat.le_trans (by rw [Heap.size_push]; omega) h1
    exact wpAny_bind (wpAny_builtinsFor G k1 k2 (old _ _ k4 k5) k6 k7 k8 (wpAny_bind (wpAny_nsGet G (wpAny_bind (wpAny_pure (wpAny_newObj_type (fin c' _ g' tk old up h2 h3 h4.2) (by size_fits)))))))
theorem tail_old {cv : Value} (hcl : closureFor scope env = pure cl) (eg : env.globals = mainGlobals) (g : s.heap.Ns mainGlobals mg) (ec : env.code = .ref c) (C : PySem.W.CodeHd s.heap c P) (eP : s.heap.get? P = some (PySem.W.tabObj ps)) (ht : TriplesOk ps.toList)
    (hf : codeAmong pos ps.toList = some cv) (bl : s.heap.BuiltinsAt mg P)
    (fin : ∀ (ctv : Value) (g' : Heap) (tk : Tok), (∀ b o, s.heap.get? b = some o → g'.get? b = some o) → s.heap.objs.size ≤ g'.objs.size → Q (.ref g'.objs.size) { s with heap := g'.push (obL q params body scope cl dV ((mg "__name__").getD .none) cv ctv), toks := tk }) :
    wpAny M A (makeTail "<lambda>" q params (.expr body) scope env dV .none none pos line) Q E s := by
  obtain ⟨b1, b2, k1, k2, k3, k4, k5, k6, k7, k8⟩ := bl
  unfold makeTail
  rw [hcl, eg]
  refine wpAny_bind (wpAny_pure ?_)
  cases cl with
  | nil =>
    simp only [List.isEmpty_nil, if_true]
    exact wpAny_bind (wpAny_pure (wpAny_bind (wpAny_functionCode_hit ec (C.code eP ht) hf (wpAny_bind (wpAny_builtinsFor g k1 k2 k5 k6 k7 k8 (wpAny_bind (wpAny_nsGet g (wpAny_bind (wpAny_pure (wpAny_newObj_type (fin .none s.heap s.toks (fun _ _ e => e) (Nat.le_refl _)) (by size_fits)))))))))))
  | cons y r =>
    simp only [List.isEmpty_cons, Bool.false_eq_true, if_false]
    refine wpAny_bind (wpAny_newTextTuple (wpAny_bind (wpAny_functionCode_hit ec ((C.keeps fun b o e => Heap.get?_push_of_some _ e).code (Heap.get?_push_of_some _ eP) ht) hf (wpAny_bind (wpAny_builtinsFor (g.push _) k1 k2 (Heap.get?_push_of_some _ k5) k6 k7 k8 (wpAny_bind (wpAny_nsGet (g.push _) ?_)))))))
    have sz : ∀ ob : Obj, s.heap.objs.size ≤ (s.heap.push ob).objs.size := fun ob => by rw [Heap.size_push]; omega
    exact wpAny_bind (wpAny_pure (wpAny_newObj_type (fin _ _ s.toks (fun b o e => Heap.get?_push_of_some _ e) (sz _)) (by size_fits)))
end
structure LamN (N : List Str) (sc scope : Scope) : Prop where
  kind : scope.kind = .function
  co : scope.isCoroutine = false
  gen : scope.isGenerator = false
  cel : ∀ y ∈ scope.names, y.2 ≠ .cell
  loc : ∀ y ∈ scope.names, y.2 = .local → y.1 ∉ N
  free : ∀ y ∈ scope.names, y.2 = .free → sc.names.lookup y.1 = some .cell ∨ sc.names.lookup y.1 = some .free
def lamNB (N : List Str) (sc scope : Scope) : Bool :=
  decide (scope.kind = .function) && (!scope.isCoroutine && (!scope.isGenerator && scope.names.all fun y => !decide (y.2 = .cell) && ((!decide (y.2 = .local) || !N.contains y.1) && (!decide (y.2 = .free) || (decide (sc.names.lookup y.1 = some .cell) || decide (sc.names.lookup y.1 = some .free))))))
theorem lamN_by {N : List Str} {sc scope : Scope} (h : lamNB N sc scope = true) : LamN N sc scope := by
  unfold lamNB at h
  simp only [Bool.and_eq_true, Bool.or_eq_true, Bool.not_eq_true', decide_eq_true_eq, decide_eq_false_iff_not, List.all_eq_true, List.contains_eq_mem] at h
  obtain ⟨a1, a2, a3, a4⟩ := h
  refine ⟨a1, a2, a3, fun y hy => (a4 y hy).1, fun y hy e => ?_, fun y hy e => ?_⟩
  · rcases (a4 y hy).2.1 with z | z
    · exact absurd e z
    · exact z
  · rcases (a4 y hy).2.2 with z | z
    · exact absurd e z
    · exact z
theorem LamN.has {N : List Str} {X : Cx} {scope : Scope} (L : LamN N X.env.scope scope) (ok : X.Ok) : ∀ y ∈ scope.names, y.2 = .free → ∃ c, X.env.cells.lookup y.1 = some c := fun y hy e => by
  rcases L.free y hy e with k | k
  · exact ok.has _ (.inl k)
  · exact ok.has _ (.inr k)
section
variable {X : Cx} {pins : List (Addr × Obj)} {σ : L2.St} {H : Hp} {s : Shared}
theorem lam_makeD {T : List (Addr × Str)} {c P : Addr} {params : Arguments} {body : Expr} {scope : Scope} {pos kp : Pos} {ki : Nat} {z : Int} {E : Value → Shared → Prop} {Q : Value → Shared → Prop} (I : Inv X pins σ H s) (TB : TabB X.base X.mg c P) (ec : X.env.code = .ref c)
    (hm : (P, X.env.qual ++ "<lambda>") ∈ T) (hu : ∀ p ∈ T, p.1 = P → p.2 = X.env.qual ++ "<lambda>") (hT : Tabs T H) (hdef : defaultsOf params X.env = ([eval (.Constant (.int z) ki kp) X.env], [])) (hfree : ∀ y ∈ scope.names, y.2 = .free → ∃ c, X.env.cells.lookup y.1 = some c)
    (fin : ∀ (f c' t : Addr) (pm ctv : Value) (k : Tok) (G : Hp) (s' : Shared), Inv X pins σ G s' → ExtN H G → Tabs T G → s'.heap.get? f = some (obL (X.env.qual ++ "<lambda>") params body scope (cloFrom X.env.cells scope.names []) (.ref t) pm (.ref c') ctv) → G f = none → f ∉ frs X.stack →
      s'.heap.get? t = some (obT (.int z k)) → G t = none → t ∉ frs X.stack → G c' = some (CodeO c' (X.env.qual ++ "<lambda>")) → Q (.ref f) s') :
    wpAny (model X.prog X.w) X.A (eval (.Lambda params body scope pos) X.env) Q E s := by
  obtain ⟨ps, hP, ht, ha⟩ := hT _ hm
  rw [arm_eval_Lambda, hdef]
  show wpAny _ _ (do let dv ← evalAll [eval (.Constant (.int z) ki kp) X.env]; let kdv ← holding dv (evalAllOpt []); makeFunction "<lambda>" (X.env.qual ++ "<lambda>") params (.expr body) scope X.env dv kdv [] pos pos.line) _ _ _
  refine wpAny_bind ?_
  show wpAny _ _ (do let v ← eval (.Constant (.int z) ki kp) X.env; return v :: (← holding [v] (evalAll []))) _ _ _
  refine wpAny_bind (wpAny_mono ((pe_int (X := X.nox) (i := z) (j := ki) (pos := kp)).run pins s σ H (fun v G => v = .int z ∧ G = H) (I.wish _) ⟨rfl, rfl⟩) (fun u s1 ⟨v, G, I1, r1, ev, eG⟩ => ?_) (fun e s1 y => y.elim))
  subst ev
  rw [eG] at I1
  obtain ⟨k, rfl⟩ : ∃ k, u = .int z k := r1
  have I1 : Inv X pins σ H s1 := I1.wish _
  refine wpAny_bind (wpAny_holding (wpAny_pure (wpAny_pure (wpAny_bind (wpAny_holding (wpAny_pure ?_))))))
  rw [makeFunction_eq]
  simp only [List.zip_nil_right, List.filterMap_nil, List.isEmpty_nil, List.isEmpty_cons, Bool.false_eq_true, if_true, if_false, pure_bind]
  refine wpAny_bind (wpAny_newTextTuple ?_)
  have I2 : Inv X pins σ H { s1 with heap := s1.heap.push (obT (.int z k)) } := I1.kept fun b o e => Heap.get?_push_of_some _ e
  have nt : H s1.heap.objs.size = none := I1.hok.fresh (Nat.le_refl _)
  have bP : (s1.heap.push (obT (.int z k))).BuiltinsAt X.mg P := TB.bm.keeps I2.bk
  have eP : (s1.heap.push (obT (.int z k))).get? P = some { cls := .none, data := .fields ps } := I2.hok P _ hP
  have nofr : ∀ {s2 : Shared} (J : Inv X pins σ H s2) (f : Addr), s2.heap.objs.size ≤ f → f ∉ frs X.stack := fun {s2} J f hf y => by
    rcases List.mem_cons.mp (J.stkSub _ y) with e | e
    · have h1 := J.lt
      rw [← e] at h1
      exact Nat.lt_irrefl _ (Nat.lt_of_lt_of_le h1 hf)
    · exact J.nofs hf e
  have tAt : (s1.heap.push (obT (.int z k))).get? s1.heap.objs.size = some (obT (.int z k)) := Heap.get?_push_size _ rfl
  have sz2 : s1.heap.objs.size < (s1.heap.push (obT (.int z k))).objs.size := by rw [Heap.size_push]; omega
  cases hc : codeAmong pos ps.toList with
  | none =>
    refine tail_new (mg := X.mg) (c := c) (P := P) (ps := ps) (closure_ok hfree) I2.ok.glob (I2.mod.glob.keeps I2.bk) ec (TB.code.keeps I2.bk) eP ht hc TB.gP bP fun c' ctv g' tk hx hge hlt hrec htb => ?_
    obtain ⟨c2, oc, vs, t2, e2, hoc, hd, hv⟩ := hrec
    cases e2
    have hsz := Nat.le_trans hge (Nat.le_of_lt hlt)
    have nC : H c' = none := I2.hok.fresh hge
    have tP : s1.heap.objs.size ≠ P := fun e => by
      rw [← e] at hP
      rw [nt] at hP
      cases hP
    have I3 := inv_table (t' := tk) (more := #[rawInt pos.line, rawInt pos.col, .ref c']) (h' := g'.push (obL (X.env.qual ++ "<lambda>") params body scope (cloFrom X.env.cells scope.names []) (.ref s1.heap.objs.size) ((X.mg "__name__").getD .none) (.ref c') ctv)) I2 hP
      (fun b o hb e => Heap.get?_push_of_some _ (hx b o hb e)) (Heap.get?_push_of_some _ htb) hge ⟨oc, vs, t2, Heap.get?_push_of_some _ hoc, hd, hv⟩
    have hE : ExtN H (upd (upd H P (.tbl (ps ++ #[rawInt pos.line, rawInt pos.col, .ref c']))) c' (CodeO c' (X.env.qual ++ "<lambda>"))) := fun b o e n => by
      rw [upd_ne (ne_of_none e nC), upd_ne (fun y => n ps (Option.some.inj (e.symm.trans (by rw [y]; exact hP))))]
      exact e
    have eL : (ps ++ #[rawInt pos.line, rawInt pos.col, .ref c']).toList = ps.toList ++ [rawInt pos.line, rawInt pos.col, .ref c'] := by simp
    have t3 : (upd (upd H P (.tbl (ps ++ #[rawInt pos.line, rawInt pos.col, .ref c']))) c' (CodeO c' (X.env.qual ++ "<lambda>"))) s1.heap.objs.size = none := by
      rw [upd_ne (Nat.ne_of_lt (Nat.lt_of_lt_of_le sz2 hge)), upd_ne tP]
      exact nt
    refine fin g'.objs.size c' s1.heap.objs.size ((X.mg "__name__").getD .none) ctv k _ _ I3 hE (fun p hp => ?_) (Heap.get?_push_size _ rfl) ?_ (nofr I2 _ hsz) (Heap.get?_push_of_some _ (hx _ _ tP tAt)) t3 (nofr I1 _ (Nat.le_refl _)) upd_same
    · by_cases hb : p.1 = P
      · rw [hu p hp hb, hb]
        refine ⟨_, by rw [upd_ne (ne_of_none hP nC), upd_same], by rw [eL]; exact PySem.TriplesOk_snoc _ _ _ _ ht, fun p' cv hcv => ?_⟩
        rw [eL] at hcv
        rcases among_app _ ht hcv with y | y
        · obtain ⟨c0, e1, e2⟩ := ha p' cv y
          exact ⟨c0, e1, hE _ _ e2 codeO_ne⟩
        · exact ⟨c', y, upd_same⟩
      · obtain ⟨ps', a1, a2, a3⟩ := hT p hp
        refine ⟨ps', (upd_ne (ne_of_none a1 nC)).trans ((upd_ne hb).trans a1), a2, fun p' cv hcv => ?_⟩
        obtain ⟨c0, e1, e2⟩ := a3 p' cv hcv
        exact ⟨c0, e1, hE _ _ e2 codeO_ne⟩
    · rw [upd_ne (Nat.ne_of_gt hlt), upd_ne (Nat.ne_of_gt (Nat.lt_of_lt_of_le (Heap.lt_size eP) hsz))]
      exact I2.hok.fresh hsz
  | some cv =>
    obtain ⟨c', e, hco⟩ := ha pos cv hc
    subst e
    refine tail_old (mg := X.mg) (c := c) (P := P) (ps := ps) (closure_ok hfree) I2.ok.glob (I2.mod.glob.keeps I2.bk) ec (TB.code.keeps I2.bk) eP ht hc bP fun ctv g' tk hx hsz => ?_
    have I3 : Inv X pins σ H { s1 with heap := g'.push (obL (X.env.qual ++ "<lambda>") params body scope (cloFrom X.env.cells scope.names []) (.ref s1.heap.objs.size) ((X.mg "__name__").getD .none) (.ref c') ctv), toks := tk } := I2.kept fun b o e => Heap.get?_push_of_some _ (hx b o e)
    exact fin g'.objs.size c' s1.heap.objs.size ((X.mg "__name__").getD .none) ctv k H _ I3 (ExtN.refl H) hT (Heap.get?_push_size _ rfl) (I2.hok.fresh hsz) (nofr I2 _ hsz) (Heap.get?_push_of_some _ (hx _ _ tAt)) nt (nofr I1 _ (Nat.le_refl _)) hco
theorem lam_startD {A : Around} {outer : List Env} {E : XK} {scope : Scope} {f c' : Addr} {g1 : Heap} {tk : Nat} {HZ : Hp} {s1 : Shared} {bs : List (Str × Value)} (I : Inv X pins σ H s) (L : LamN X.N X.env.scope scope) (e0 : Env0 X.prog X.w X.K X.mg X.base A outer s1 HZ) (hd : A.handled = none)
    (un : Un (frs X.stack) [] H HZ s.heap s1.heap) (hns : g1.Ns s1.heap.objs.size fun y => bs.reverse.lookup y) (kp : ∀ b o, s1.heap.get? b = some o → g1.get? b = some o) :
    Inv (lamCx X A outer s1 HZ E scope f c') [] σ HZ { s1 with heap := g1, toks := tk } := by
  have hfree := L.has I.ok
  have cm : ∀ {y c}, (cloFrom X.env.cells scope.names []).lookup y = some c → X.env.cells.lookup y = some c := fun {y c} e => by
    rcases cloFrom_mem (PySem.mem_of_lookup e) with hm | ⟨m1, m2⟩
    · cases hm
    · obtain ⟨c1, hc⟩ := hfree _ m1 rfl
      have hc : X.env.cells.lookup y = some c1 := hc
      rw [show c = c1 by rw [m2, hc] <;> rfl]
      exact hc
  have look : ∀ {y}, scope.names.lookup y = some .free → ∃ c, (cloFrom X.env.cells scope.names []).lookup y = some c := fun {y} hl => mem_lookup (cloFrom_has (cells := X.env.cells) (acc := []) (PySem.mem_of_lookup hl))
  have cellK : ∀ {c : Addr} {v : Option Value}, H c = none → s.heap.IsCell c v → g1.IsCell c v := fun {c v} n ⟨o, ho, hd⟩ => by
    obtain ⟨sl, q⟩ := un.any ho n (by simp)
    exact ⟨_, kp _ _ q, hd⟩
  have noA : ∀ b : Addr, b ∉ (lamCx X A outer s1 HZ E scope f c').ex := fun b y => absurd (show b ∈ ([] : List Addr) from y) (by simp)
  have okH : ∀ y : Str, scope.names.lookup y = some .cell ∨ scope.names.lookup y = some .free → ∃ c, (cloFrom X.env.cells scope.names []).lookup y = some c := fun y hy => by
    rcases hy with hy | hy
    · exact absurd rfl (L.cel _ (PySem.mem_of_lookup hy))
    · exact look hy
  have okC : ∀ {p : Prop}, false = true → p := fun {p} y => by cases y
  have ok1 : (lamCx X A outer s1 HZ E scope f c').Ok := ⟨e0.mod, L.kind, rfl, rfl, Nat.le_refl _, (fun y y' c e1 e2 => I.ok.inj y y' c (cm e1) (cm e2)), (fun y hy => okH y hy), (fun y c y2 _ => okC y2), (fun _ => hd), Around.frames_deeper e0.frames, .inr ⟨rfl, rfl⟩, (fun b y => absurd y (noA b)), e0.bs, e0.bsz, (fun b _ _ => noA b), (fun b y => absurd y (noA b)), e0.funs, e0.frf⟩
  refine ⟨ok1, rfl, e0.bare, Un.kept kp, ⟨_, hns, fun i y v e1 e2 e3 => ?_⟩, fun y c e => ?_, e0.hok.fresh (Nat.le_refl _), fun y c e => ?_, fun q hq => absurd (show q ∈ ([] : List (Addr × Obj)) ++ [] from hq) (by simp), e0.hok.kept kp, I.len⟩
  · have yN : y ∈ X.N := List.mem_of_getElem? e1
    rcases (show Vis scope y from e3) with k | k | k
    · exact absurd yN (L.loc _ (PySem.mem_of_lookup k) rfl)
    · exact absurd rfl (L.cel _ (PySem.mem_of_lookup k))
    · obtain ⟨m, hn, hl⟩ := I.loc
      have free := L.free _ (PySem.mem_of_lookup k) rfl
      obtain ⟨w', r, q⟩ := hl i y v e1 e2 (free.elim (fun k => .inr (.inl k)) (fun k => .inr (.inr k)))
      obtain ⟨c2, h2⟩ := look k
      have c1 := cm h2
      refine ⟨w', r, .inr ⟨.inr k, c2, h2, ?_⟩⟩
      rcases q with ⟨k', _⟩ | ⟨_, c3, e', y3⟩
      · have k' : X.env.scope.names.lookup y = some .local := k'
        rcases free with k2 | k2 <;> rw [show X.env.scope.names.lookup y = _ from k2] at k' <;> cases k'
      · cases c1.symm.trans e'
        exact cellK (I.freeC y _ c1) y3
  · obtain ⟨w', y3⟩ := I.cell y c (cm e)
    exact ⟨w', cellK (I.freeC y c (cm e)) y3⟩
  · obtain ⟨v, o, ho, hd⟩ := I.cell y c (cm e)
    exact un.free c o ho (I.freeC y c (cm e)) (by simp)
def BindD (params : Arguments) (body : Expr) (scope : Scope) (a : Str) : Prop :=
  (∀ (q : Str) (cl : List (Str × Addr)) (t : Addr) (pm cv ctv u : Value), ∃ k, bindArgs (fnL q params body scope cl (.ref t) pm cv ctv) ⟨[], []⟩ = seqItems? (.ref t) >>= k ∧ k (some [u].toArray) = pure [(a, u)]) ∧ scope.names.lookup a = some .local
theorem callF_ofD {f c' t : Addr} {pm ctv u : Value} {params : Arguments} {body : Expr} {scope : Scope} {k : Nat} {tb : XK → TE} {a : Str}
    (I : Inv X pins σ H s) (L : LamN X.N X.env.scope scope) (hf : s.heap.get? f = some (obL (X.env.qual ++ "<lambda>") params body scope (cloFrom X.env.cells scope.names []) (.ref t) pm (.ref c') ctv)) (hfn : H f = none) (hfr : f ∉ frs X.stack)
    (hf2 : s.heap.get? t = some (obT u)) (hfn2 : H t = none) (hfr2 : t ∉ frs X.stack) (hb : BindD params body scope a)
    (hbody : ∀ (A : Around) (outer : List Env) (s : Shared) (H : Hp) (E : XK), Room k (A.deeper (lamEnv X scope s.heap.objs.size f c')) → PE (lamCx X A outer s H E scope f c') body (tb E)) :
    CallF X.prog X.w X.K X.mg X.base k (frs X.stack) H s.heap f c' (X.env.qual ++ "<lambda>") (fun E HZ Q => tb E σ HZ Q) := by
  intro A outer s1 HZ Q E hr e0 un hc ht
  have none_ : ∀ {b : Addr}, b ∉ ([] : List Addr) := fun {b} z => nomatch z
  have g1 := un.keep f _ hf hfn hfr none_
  have g2 := un.keep t _ hf2 hfn2 hfr2 none_
  obtain ⟨⟨oc, vs, tq, hoc, hdc, hvc⟩, _, _⟩ := e0.hok c' _ hc
  have lim : s1.heap.NoLimit := e0.mod.nolimit.keeps fun b o e => (e0.bs b o e).1
  obtain ⟨bk, e1, e2⟩ := hb.1 (X.env.qual ++ "<lambda>") (cloFrom X.env.cells scope.names []) t pm (.ref c') ctv u
  refine ⟨⟨_, _, _, _, g1⟩, PySem.W.kla_callFunE hr.depth g1 rfl L.co L.gen rfl ⟨c', oc, vs, tq, rfl, hoc, hdc, hvc⟩ ?_⟩
  rw [e1]
  refine wpAny_bind (wpAny_seqItems g2 rfl ?_)
  rw [e2]
  refine wpAny_pure (wpAny_newFunctionEnv (fun y hy => L.cel y hy) (fun y hy => ?_) (fun h₁ hns hsb => ⟨lim.fresh _ hsb, ?_⟩) L.kind)
  · rw [List.mem_singleton.mp hy]
    exact hb.2
  · show codeAny _ _ (.expr body (lamEnv X scope s1.heap.objs.size f c')) _ _
    have kp : ∀ b o, s1.heap.get? b = some o → h₁.get? b = some o := fun b o e => hsb.extBut b o (Nat.ne_of_lt (Heap.lt_size e)) (Heap.get?_push_of_some _ e)
    refine PySem.W.kla_codeExpr (wpAny_mono ((hbody _ _ s1 HZ E (hr.deeper _)).run [] _ _ HZ Q (lam_startD I L e0 hr.hd un hns kp) ht) (fun v s' ⟨w', H', J', rv, q⟩ => ?_) fun e s' hq => hq)
    exact ⟨w', H', J'.os, J'.bare, J'.base, J'.hok, rv, q⟩
end
section
variable {X : Cx}
theorem pe_lamD {T : List (Addr × Str)} {TT : (XK → Hp → VK → Prop) → Hp → VK → Prop} {x a : Str} {c P : Addr} {kk j k ki : Nat} {z : Int} {params : Arguments} {body : Expr} {scope : Scope} {t : XK → TE} {p lpos pos kp : Pos} (G : PrC X.prog X.w X.K X.mg X.base x kk j TT) (hg : Gl X x)
    (TB : TabB X.base X.mg c P) (hcode : X.env.code = .ref c) (hmT : (P, X.env.qual ++ "<lambda>") ∈ T) (hu : ∀ p ∈ T, p.1 = P → p.2 = X.env.qual ++ "<lambda>") (hr : Room k X.A) (hj : j ≤ k) (L : LamN X.N X.env.scope scope) (hdef : defaultsOf params X.env = ([eval (.Constant (.int z) ki kp) X.env], []))
    (hb : BindD params body scope a)
    (hbody : ∀ (A : Around) (outer : List Env) (s : Shared) (H : Hp) (E : XK) (f c' : Addr), Room kk (A.deeper (lamEnv X scope s.heap.objs.size f c')) → PE (lamCx X A outer s H E scope f c') body (t E))
    (hdb : (x == ("__debug__" : Str)) = false := by decide) :
    PE X (.Call (.Name x p) [.Lambda params body scope lpos] [] pos) (tLam T TT t) := by
  obtain ⟨g, hm, hk, F⟩ := G
  refine ⟨fun pins s σ H Q I h => ?_⟩
  obtain ⟨hT, h⟩ := h
  refine wpAny_Call_Name_kw (ld_glob I hg hm ?_ hdb)
  refine PySem.W.callWith_K (h₀ := X.base) I.ok.mod.kin hk ?_ (by rfl) (by rfl)
  show wpAny _ _ (spliced ((false, eval (.Lambda params body scope lpos) X.env) :: backTo pos (starEach [] X.env))) _ _ s
  refine Calls.spliced_cons (lam_makeD I TB hcode hmT hu hT hdef (L.has I.ok) fun f c' tt pm' ctv tk H1 s' I1 eN T1 hf hfn hfr hf2 hfn2 hfr2 hco => ?_)
  refine Calls.spliced_nil ⟨I1.kIn, ?_⟩
  have rc := F X.A X.stack s' H1 f c' (X.env.qual ++ "<lambda>") (fun E H' Q' => t E σ H' Q') Q (hr.mono hj) I1.env0 (callF_ofD (k := kk) I1 L hf hfn hfr hf2 hfn2 hfr2 hb fun A outer s H E hr2 => hbody A outer s H E f c' hr2) hco (h H1 eN T1)
  refine wpAny_call (codeAny_mono rc fun r s2 hq => ?_)
  cases r with
  | error e => exact (show False from hq).elim
  | ok fl =>
    cases fl with
    | ret u => exact I1.after hq
    | next => exact False.elim hq
    | brk => exact False.elim hq
    | cont => exact False.elim hq
end
end Eyes

set_option Elab.async false
set_option linter.all false
set_option maxRecDepth 100000
set_option maxHeartbeats 4000000
/-! What was handed on is asked within a try. -/
namespace Eyes
open PySem PySem.Spec PyProof.Rows L2 LamX
theorem pe_ask2 {CXg : CXT} {P : Program} {w : World} {K : PySem.W.Frag} {mg : Str → Option Value} {base : Heap} {Eg : XK} {Ng : List Str} {qg : Str} {sg : Scope} {g f c' : Addr} {cdg : Value} {A : Around} {outer : List Env} {s : Shared} {H : Hp} {k i : Nat} {a q : Str} {pn : List (Addr × Obj)} {xe : Value → Shared → Prop} {W : WX} {tl : XK → Hp → VK → Prop} {p1 p2 : Pos}
    (C : CallF P w K mg base k (frs outer) H s.heap f c' q tl)
    (tk : Takes ((cxOf CXg P w K mg base Ng qg sg g cdg A outer s H Eg).tr pn xe) W) (hr : Room (k + 1) (A.deeper (envOfC qg sg s.heap.objs.size g cdg)))
    (hN : Ng[i]? = some a) (hv : Vis sg a) (hd : (a == ("__debug__" : Str)) = false := by decide) (hcd : (a == ("__classdict__" : Str)) = false := by decide) :
    PE ((cxOf CXg P w K mg base Ng qg sg g cdg A outer s H Eg).tr pn xe) (.Call (.Name a p1) [] [] p2)
      (fun σZ HZ Q => σZ[i]? = some (some (.ref f)) ∧ HZ c' = some (CodeO c' q) ∧ ∃ (E1 : XK) (Q1 : VK), tl E1 HZ Q1 ∧ (∀ v H', Q1 v H' → Q v H') ∧ ∀ cls d H', E1 cls d H' → W cls d σZ H') := by
  refine ⟨fun pinsZ sZ σZ HZ Q IZ h => ?_⟩
  obtain ⟨hs, hc, E1, Q1, ht, hQ, hE⟩ := h
  refine wpAny_Call_Name_kw (thn ((pe_var (pos := p1) (i := i) hN hv hd hcd).run pinsZ sZ σZ HZ (fun v H1 => v = .ref f ∧ H1 = HZ) IZ ⟨.ref f, hs, rfl, rfl⟩) fun u s1 ⟨v, H1, I1, r1, q1⟩ => ?_)
  obtain ⟨ev, eH⟩ := q1
  subst ev
  rw [eH] at I1
  obtain rfl : u = Value.ref f := r1
  have un : Un (frs outer) [] H HZ s.heap s1.heap := I1.base
  obtain ⟨fa, rc⟩ := C _ _ s1 HZ Q1 E1 hr I1.env0 un hc ht
  refine PySem.W.callWith_F0 fa ?_
  refine wpAny_call (codeAny_mono rc fun r s' hq => ?_)
  cases r with
  | error e => exact tk e s' (XE.of_call I1 (fun cls d H' z => hE cls d H' z) hq)
  | ok fl =>
    cases fl with
    | ret u =>
      obtain ⟨v, H', a1, a2, a3, a4, a5, q1⟩ := hq
      exact I1.after ⟨v, H', a1, a2, a3, a4, a5, hQ v H' q1⟩
    | next => exact False.elim hq
    | brk => exact False.elim hq
    | cont => exact False.elim hq
end Eyes

set_option Elab.async false
set_option linter.all false
set_option maxRecDepth 100000
set_option maxHeartbeats 4000000
/-! Defs that make lambdas: their code object is named. -/
namespace Eyes
open PySem PySem.Spec PyProof.Rows L2 LamX
def FnAtC (K : PySem.W.Frag) (mg : Str → Option Value) (x : Str) (st : Stmt) (ps : List Str) (c : Addr) : Prop :=
  ∃ (f : Addr) (oc : Value) (od : Option Addr) (kV doc pm : Value) (an : Option Addr) (ct : Value) (osl : Array (Option Value)), K.lookup f = some ⟨oc, od, .func (PySem.W.fnOf x x (defArgs st) (defBody st) (defScope st) .none kV doc pm an (.ref c) ct), osl⟩ ∧ PySem.W.codeIn K (.ref c) x = true ∧ PySem.W.keepIn K (.ref f) = true ∧
    Binds K (PySem.W.fnOf x x (defArgs st) (defBody st) (defScope st) .none kV doc pm an (.ref c) ct) ps [] ∧ mg x = some (.ref f)
section
variable {P : Program} {w : World} {K : PySem.W.Frag} {mg : Str → Option Value} {base : Heap}
theorem fnAtC_mk {h : Heap} (X : K.In h) (G : h.Ns mainGlobals mg) {x : Str} {st : Stmt} {ps : List Str} {f c : Addr} {oc : Value} {od an : Option Addr} {osl : Array (Option Value)} {kV doc pm ct : Value} (a : PySem.W.nsIn K mainGlobals x = some (some (.ref f)))
    (l : K.lookup f = some ⟨oc, od, .func (PySem.W.fnOf x x (defArgs st) (defBody st) (defScope st) .none kV doc pm an (.ref c) ct), osl⟩) (cd : PySem.W.codeIn K (.ref c) x = true) (k : PySem.W.keepIn K (.ref f) = true) (hb : BindH x x st ps) : FnAtC K mg x st ps c :=
  ⟨f, oc, od, kV, doc, pm, an, ct, osl, l, cd, k, (fun_mk l cd k).binds hb, PySem.W.mg_of X G a⟩
theorem pr_mkC {x : Str} {st : Stmt} {N ps : List Str} {k : Nat} {c : Addr} {sp : Sp} (A : FnAtC K mg x st ps c) (S : FnScope N ps (defScope st)) (len : ∀ vs H Q E, sp vs H Q E → vs.length = ps.length)
    (hbody : ∀ (f : Addr) (A : Around) (outer : List Env) (s : Shared) (H : Hp) (vs : List V) (Q : VK) (E : XK), Room k (A.deeper (envOfC x (defScope st) s.heap.objs.size f (.ref c))) → sp vs H Q E →
      ∃ t, PSs (cxOf CX0 P w K mg base N x (defScope st) f (.ref c) A outer s H E).nox (defBody st) t ∧ t { nx := fun _ H' => Q .non H', rt := Q } (start N vs) H) : Pr P w K mg base x st ps (k + 1) sp := by
  obtain ⟨f, oc, od, kV, doc, pm, an, ct, osl, lk, hcd, kp, hb, hm⟩ := A
  refine ⟨f, _, hm, fun_mk lk hcd kp, hb, fn_of lk hcd S len fun A outer s H vs Q E hr hsp => ?_⟩
  obtain ⟨t, h, q⟩ := hbody f A outer s H vs Q E hr hsp
  exact ⟨t, h.nox, q⟩
theorem codeHd_mk {h : Heap} {c T : Addr} {o : Obj} {vs : Array Value} {file : Str} {tf tg tt : Tok} {flags text : Int} {inF : Bool} (X : K.In h) (l : K.lookup c = some o) (h1 : o.cls = .type "code") (h2 : o.data = .fields vs) (h3 : vs[11]? = some (.ref T)) (h4 : vs.getD 11 .none = .ref T) (h5 : vs.getD 18 .none = .str file tf)
    (h6 : vs.getD 7 .none = .int flags tg) (h7 : vs.getD 9 .none = .bool inF) (h8 : vs.getD 10 .none = .int text tt) (n : c ≠ T) : PySem.W.CodeHd h c T :=
  ⟨o, vs, file, tf, flags, tg, inF, text, tt, X _ _ l, h1, h2, h3, h4, h5, h6, h7, h8, n⟩
end
theorem tabs_new {T : List (Addr × Str)} {H : Hp} (h : ∀ p ∈ T, H p.1 = some (.tbl #[])) : Tabs T H := fun p hp => by
  refine ⟨#[], h p hp, ?_, fun pos cv z => ?_⟩
  · trivial
  · cases z
end Eyes

set_option Elab.async false
set_option linter.all false
set_option maxRecDepth 100000
set_option maxHeartbeats 4000000
/-! Defs of a star parameter alone, which may raise. -/
namespace Eyes
open PySem PySem.Spec PyProof.Rows L2
def FnAtR (K : PySem.W.Frag) (mg : Str → Option Value) (x : Str) (st : Stmt) : Prop := ∃ (f : Addr) (fd : FuncData), Fun K x x st f fd ∧ mg x = some (.ref f)
def PrR (P : Program) (w : World) (K : PySem.W.Frag) (mg : Str → Option Value) (base : Heap) (x : Str) (k : Nat) (sp : Sp) : Prop :=
  ∃ f : Addr, mg x = some (.ref f) ∧ PySem.W.keepIn K (.ref f) = true ∧ FnR P w K mg base (L2.CX P w) k f sp
def spStar (sp : Sp) : Sp := fun vs H Q E => vs.length ≤ sizeLine ∧ ∀ p, H p = none → sp [.ref p] (upd H p (.tup vs)) Q E
abbrev BindStar (x : Str) (st : Stmt) (a : Str) : Prop := ∀ (kV doc pm : Value) (an : Option Addr) (cdv ct : Value) (rest : List Value), bindArgs (PySem.W.fnOf x x (defArgs st) (defBody st) (defScope st) .none kV doc pm an cdv ct) ⟨rest, []⟩ = (newTuple rest >>= fun t => pure [(a, t)])
section
variable {P : Program} {w : World} {K : PySem.W.Frag} {mg : Str → Option Value} {base : Heap}
theorem fnAtR_mk {h : Heap} (X : K.In h) (G : h.Ns mainGlobals mg) {x : Str} {st : Stmt} {f : Addr} {oc : Value} {od an : Option Addr} {osl : Array (Option Value)} {kV doc pm cdv ct : Value} (a : PySem.W.nsIn K mainGlobals x = some (some (.ref f)))
    (l : K.lookup f = some ⟨oc, od, .func (PySem.W.fnOf x x (defArgs st) (defBody st) (defScope st) .none kV doc pm an cdv ct), osl⟩) (c : PySem.W.codeIn K cdv x = true) (k : PySem.W.keepIn K (.ref f) = true) : FnAtR K mg x st :=
  ⟨f, _, fun_mk l c k, PySem.W.mg_of X G a⟩
theorem prR_mk {x a : Str} {st : Stmt} {N : List Str} {k : Nat} {sp : Sp} (A : FnAtR K mg x st) (hb : BindStar x st a) (S : FnScope N [a] (defScope st))
    (hbody : ∀ (f : Addr) (cdv : Value) (A : Around) (outer : List Env) (s : Shared) (H : Hp) (vs : List V) (Q : VK) (E : XK), Room k (A.deeper (envOfC x (defScope st) s.heap.objs.size f cdv)) → sp vs H Q E →
      Takes (cxOf (L2.CX P w) P w K mg base N x (defScope st) f cdv A outer s H E) (fun cls d _ G => E cls d G) →
      ∃ t, PSs (cxOf (L2.CX P w) P w K mg base N x (defScope st) f cdv A outer s H E) (defBody st) t ∧ t { nx := fun _ H' => Q .non H', rt := Q } (start N vs) H) : PrR P w K mg base x (k + 1) (spStar sp) := by
  obtain ⟨f, fd, F, hm⟩ := A
  refine ⟨f, hm, F.kp, ?_⟩
  obtain ⟨oc, od, kV, doc, pm, an, cdv, ct, osl, rfl, lk, hcd⟩ := F.ex
  have z := StX.fn_star (CX := L2.CX P w) (P := P) (w := w) (mg := mg) (base := base) (k := k) (sp := sp) (N := N) (ps := []) (pv := a) lk hcd S StX.cxUp (fun us rest hu => by
    rw [List.length_eq_zero_iff.mp hu]
    exact hb kV doc pm an cdv ct rest) (fun A outer s H vs Q E hr h => hbody f cdv A outer s H vs Q E hr h (takes_of rfl rfl rfl rfl))
  exact z.imp fun vs H Q E h => ⟨[], vs, rfl, rfl, h.1, h.2⟩
end
section
variable {X : Cx} {x : Str} {sp : Sp} {E : XK} {e : Expr} {es : List Expr} {p pos : Pos} {t : TA} {j k : Nat}
theorem pcallR (G : PrR X.prog X.w X.K X.mg X.base x j sp) (hr : Room k X.A) (hx : Passes (L2.CX X.prog X.w) X E) (ha : PA X (e :: es) t) (hj : j ≤ k := by first | decide | omega) (hg : Gl X x := by rfl)
    (hdb : (x == ("__debug__" : Str)) = false := by decide) (he : starEach (e :: es) X.env = (false, eval e X.env) :: starEach es X.env := by rfl) (hpl : (backTo pos (starEach es X.env)).any (·.1) = false := by rfl) :
    PE X (.Call (.Name x p) (e :: es) [] pos) (fun σ H Q => t σ H fun vs H1 => sp vs H1 Q E) := by
  obtain ⟨f, hm, hk, F⟩ := G
  refine ⟨fun pins s σ H Q I h => wpAny_Call_Name_kw (ld_glob I hg hm ?_ hdb)⟩
  refine PySem.W.callWith_K (h₀ := X.base) I.ok.mod.kin hk (thn (ha.run pos pins s σ H _ I h) fun us s1 ⟨vs, H1, I1, r, q⟩ => ⟨I1.kIn, ?_⟩) he hpl
  exact wpAny_call (run_fnR F (hr.mono hj) hx I1 r q)
theorem pcallR0 (G : PrR X.prog X.w X.K X.mg X.base x j sp) (hr : Room k X.A) (hx : Passes (L2.CX X.prog X.w) X E) (hj : j ≤ k := by first | decide | omega) (hg : Gl X x := by rfl)
    (hdb : (x == ("__debug__" : Str)) = false := by decide) : PE X (.Call (.Name x p) [] [] pos) (fun σ H Q => sp [] H Q E) := by
  obtain ⟨f, hm, hk, F⟩ := G
  refine ⟨fun pins s σ H Q I h => wpAny_Call_Name_kw (ld_glob I hg hm ?_ hdb)⟩
  refine PySem.W.callWith_K0 I.kIn hk ?_
  exact wpAny_call (run_fnR (us := []) (vs := []) F (hr.mono hj) hx I .nil h)
end
end Eyes

set_option Elab.async false
set_option linter.all false
set_option maxRecDepth 100000
set_option maxHeartbeats 4000000
/-! enumerate(tuple) in a for. -/
namespace Eyes
open PySem PySem.Spec PyProof.Rows L2
theorem meets_enum1 {v : Value} {o : Obj} {HB : Heap → Prop} (B : Begins v o HB) :
    Meets (Builtin.«enumerate.__new__» ⟨[.type "enumerate", v], []⟩) (fun _ R s => HB s.heap ∧
      R (.ok (.ret (.ref (s.heap.push o).objs.size))) { s with heap := (s.heap.push o).push { cls := .type "enumerate", data := .fields #[.none, .bool false, .ref s.heap.objs.size, rawInt 0, .none, .none] } }) :=
  .of_wp fun prog w A R s h => by
    obtain ⟨hp, g, d, tk, os⟩ := s
    obtain ⟨h1, h⟩ := h
    have sub1 := sub_enumerate
    have it1 : ∀ {A' : Around} {E : Value → Shared → Prop} {Q : Value → Shared → Prop}, Q (.ref hp.objs.size) ⟨hp.push o, g, d, tk, os⟩ → wpAny (model prog w) A' (pyIter v) Q E ⟨hp, g, d, tk, os⟩ := fun q => B.iter prog w _ _ ⟨hp, g, d, tk, os⟩ _ h1 q
    wp_walk using it1
    refine wpAny_stack_any fun st => wpAny_pure ?_
    split
    · rename_i c _ _ _ _ _
      cases (c == Value.type "enumerate")
      · wp_walk using it1
        exact ⟨_, rfl, h⟩
      · wp_walk using it1
        exact ⟨_, rfl, h⟩
    · wp_walk using it1
      exact ⟨_, rfl, h⟩
section
variable {prog : Program} {w : World} {A : Around} {E : Value → Shared → Prop} {s : Shared}
theorem enum1_begins {v : Value} {o : Obj} {HB : Heap → Prop} {Q : Value → Shared → Prop} (B : Begins v o HB) (h1 : HB s.heap)
    (q : ∀ h', IsEnum h' (s.heap.objs.size + 1) s.heap.objs.size 0 .none → h'.get? s.heap.objs.size = some o → h'.objs.size = s.heap.objs.size + 2 → (∀ b u, s.heap.get? b = some u → h'.get? b = some u) → Q (.ref (s.heap.objs.size + 1)) { s with heap := h' }) :
    wpAny (model prog w) A (call (.type "enumerate") [v]) Q E s := by
  refine callType_new PySem.F.called_enumerate (by decide) (PySem.F.typeCall_enumerate_1 _) (PySem.F.newCall_enumerate_1 _) (fun ob => PySem.F.args_object_init_2 ob _) PySem.F.entry_enumerate_new (meets_enum1 B) ⟨h1, ?_⟩
  have z1 : (s.heap.push o).objs.size = s.heap.objs.size + 1 := Heap.size_push ..
  show _ ∧ _
  rw [z1]
  have en : IsEnum ((s.heap.push o).push { cls := .type "enumerate", data := .fields #[.none, .bool false, .ref s.heap.objs.size, rawInt 0, .none, .none] }) (s.heap.objs.size + 1) s.heap.objs.size 0 .none := by
    have y := Heap.get?_push_size (s.heap.push o) (o := { cls := .type "enumerate", data := .fields #[.none, .bool false, .ref s.heap.objs.size, rawInt 0, .none, .none] }) rfl
    rw [z1] at y
    exact y
  exact ⟨⟨_, en, rfl⟩, q _ en (Heap.get?_push_of_some _ (Heap.get?_push_size _ B.free)) (by rw [Heap.size_push, z1]) fun b u x => Heap.get?_push_of_some _ (Heap.get?_push_of_some _ x)⟩
end
def IteT (K : PySem.W.Frag) (a : Addr) (k : Int) : It :=
  ⟨fun i H => ∃ (xs : List V) (x : V), SqT K H a xs ∧ xs[i]? = some x, fun i H v H' => ∃ T x, v = .ref T ∧ H T = none ∧ H' = upd H T (.tup [.int (k + (i : Nat)), x]) ∧ ∀ xs, SqT K H a xs → xs[i]? = some x, fun i H => ∃ xs : List V, SqT K H a xs ∧ xs.length ≤ i⟩
theorem turn_enumT {P : Program} {w : World} {K : PySem.W.Frag} {elts : List Expr} {kk : Nat} {tpos : Pos} (a e it : Addr) (k : Int) (nai : a ≠ it) :
    Turn P w K (.Tuple elts kk tpos) (IteT K a k) [e, it] e (fun i h => (∃ old, IsEnum h e it (k + (i : Nat)) old) ∧ h.IsTupleIter it a i ∧ e ≠ it ∧ a ≠ e) where
  mem := by simp
  obj := fun i h st b hb => by
    obtain ⟨⟨old, he⟩, ⟨o, ho, hc, hd⟩, _⟩ := st
    rcases (show b = e ∨ b = it by simpa using hb) with z | z
    · rw [z]
      exact ⟨_, he, fun v q => nomatch q⟩
    · rw [z]
      exact ⟨o, ho, fun v q => by rw [hd] at q; cases q⟩
  keep := fun i h h' st kp => by
    obtain ⟨⟨old, he⟩, hi, hne, hna⟩ := st
    exact ⟨⟨old, kp e (by simp) _ he⟩, hi.at fun o q => kp it (by simp) o q, hne, hna⟩
  item := by
    intro X hP hw hK hc i pins s σ H E I hf st hg
    subst hP hw hK
    obtain ⟨⟨old, he⟩, hit, hne, hna⟩ := st
    obtain ⟨xs, x, hq, hx⟩ := hg
    obtain ⟨its, rv, p, hz⟩ := I.tuple hq
    obtain ⟨u, hu, ru⟩ := rv.get hx
    have el : e < s.heap.objs.size := Heap.lt_size he
    have il : it < s.heap.objs.size := by
      obtain ⟨_, q, _⟩ := hit
      exact Heap.lt_size q
    have isT : s.heap.IsTuple a its.toArray := by
      obtain ⟨o, e1, e2, n, e3⟩ := p
      exact ⟨o, e1, e2, n, e3⟩
    have lti : i < its.length := by
      rcases Nat.lt_or_ge i its.length with z | z
      · exact z
      · rw [List.getElem?_eq_none z] at hu
        cases hu
    have D := Draws.tuple (prog := X.prog) (w := X.w) (A := X.A.in1) (by have := I.ok.hd hc; simpa using this) it a nai its.toArray
    refine wpAny_pyNext_enum_itemC D he ⟨hit, isT⟩ (by simpa using lti) hne (by simp [hne, Ne.symm hna]) fun y h' tk hy ho hst hT hsz hk => ?_
    have ey : y = u := by
      have z : its.toArray[i]? = some y := hy
      rw [List.getElem?_toArray, hu] at z
      exact (Option.some.inj z).symm
    subst ey
    refine ⟨_, rfl, wpAny_letOwnedTupleGo_enum (s := { s with heap := h', toks := tk + 1 }) ho fun h2 he2 sb => ?_⟩
    have T2 : h2.get? s.heap.objs.size = some { cls := .type "tuple", data := .seq #[.int (k + (i : Nat)) tk, y] } := (sb.2 _ (Nat.ne_of_gt el)).trans hT
    have new : ObjOk X.prog X.w (upd H s.heap.objs.size (.tup [.int (k + (i : Nat)), x])) h2 s.heap.objs.size (.tup [.int (k + (i : Nat)), x]) :=
      ⟨by show 2 ≤ sizeLine; decide, [.int (k + (i : Nat)) tk, y], .cons ⟨_, rfl⟩ (.cons ru .nil), ⟨_, T2, rfl, _, rfl⟩⟩
    have I1 : Inv X pins σ (upd H s.heap.objs.size (.tup [.int (k + (i : Nat)), x])) { s with heap := h2, toks := tk + 1 } :=
      I.turnedNew (ch := [e, it]) (fun b ob hb q => (sb.2 b (fun z => hb (by simp [z]))).trans (hk b ob (fun z => hb (by simp [z])) (fun z => hb (by simp [z])) q)) hf (Nat.le_refl _) new
    refine ⟨.ref s.heap.objs.size, _, I1, rfl, ⟨_, x, rfl, I.hok.fresh (Nat.le_refl _), rfl, fun ys hy => by rw [I.tuple_inj hy hq]; exact hx⟩, ⟨⟨y, ?_⟩, hst.1.at fun o q => (sb.2 it (Ne.symm hne)).trans q, hne, hna⟩, fun b hb => ?_⟩
    · rw [show (k + ((i + 1 : Nat) : Int)) = k + (i : Nat) + 1 by omega]
      exact he2
    · have lt : b < s.heap.objs.size := by
        rcases (show b = e ∨ b = it by simpa using hb) with z | z
        · rw [z]; exact el
        · rw [z]; exact il
      rw [upd_ne (Nat.ne_of_lt lt)]
      exact (hf b hb).1
  done := by
    intro X hP hw hK hc i pins s σ H E I hf st hg
    subst hP hw hK
    obtain ⟨⟨old, he⟩, hit, hne, hna⟩ := st
    obtain ⟨xs, hq, hx⟩ := hg
    obtain ⟨its, rv, p, hz⟩ := I.tuple hq
    have isT : s.heap.IsTuple a its.toArray := by
      obtain ⟨o, e1, e2, n, e3⟩ := p
      exact ⟨o, e1, e2, n, e3⟩
    obtain ⟨f0, f1, f2, f3, f4, f5⟩ := hf it (by simp)
    have hl := rv.length
    have hh : X.A.in1.in1.handled = none := by have := I.ok.hd hc; simpa using this
    -- what is behind the end: a draw of a tuple as long as the count
    have stop : ∀ (Q : Value → Shared → Prop) (E : Value → Shared → Prop), (∀ h' e, Heap.ExtBut it s.heap h' → (∃ o, h'.get? e = some o ∧ o.cls = .type "StopIteration") → E (.ref e) { s with heap := h' }) → wpAny (model X.prog X.w) X.A.in1 (Builtin.SmallTypes.nextOf (.ref it)) Q E s :=
      fun Q E hE => wpAny_nextOf_tuple_end (by have := I.ok.hd hc; simpa using this) hit isT (by simp; omega) hE
    have hT : s.TypeIs (.ref e) "enumerate" := ⟨_, he, rfl⟩
    unfold pyNext
    refine wpAny_bind (wpAny_attempt (wpAny_callSpecial?_slot (name := Str.ofString "__next__") hT PySem.F.slot_enumerate_next (wpAny_call_entry PySem.F.slot_enumerate_next hT PySem.F.entry_enumerate_next ?_ (PySem.F.args_enumerate_next_1 _))))
    show wpAny _ _ (field (.ref e) 2 >>= _) _ _ _
    refine wpAny_bind (wpAny_field he rfl (x := .ref it) rfl (wpAny_bind (stop _ _ fun h' x eb hx' => ?_)))
    obtain ⟨o, ho, hc'⟩ := hx'
    refine wpAny_bind (wpAny_isInstance (T := "StopIteration") (b := true) ⟨o, ho, hc'⟩ isSubtype_stop (wpAny_pure ?_))
    exact ⟨rfl, I.turned (t' := s.toks) (fun b o hb q => eb b o hb q) f0 f1 f3 f4 f5⟩
  self := fun A i s Q E st h => by
    obtain ⟨⟨_, he⟩, _⟩ := st
    exact wpAny_pyIter_enum he h
def iEnumT (K : PySem.W.Frag) (ta : TA) : TI := fun σ H R => ta σ H fun vs H1 => ∃ a xs, vs = [.ref a] ∧ SqT K H1 a xs ∧ R (IteT K a 0) H1
theorem pi_enumT {X : Cx} {e : Expr} {ta : TA} {p pos tpos : Pos} {elts : List Expr} {kk : Nat} (hg : Gl X "enumerate") (hm : X.mg "enumerate" = none) (ha : PA X [e] ta) (hs : starEach [e] X.env = [(false, eval e X.env)] := by rfl) :
    PI X (.Tuple elts kk tpos) (.Call (.Name "enumerate" p) [e] [] pos) (iEnumT X.K ta) := by
  refine ⟨fun pins s σ H R I h => ?_⟩
  refine Call_ (ld_blt I hg hm boot_enumerate (PyProof.Rows.callWith_type1 (thn (ha.run pos pins s σ H _ I h) fun us s1 ⟨vs, H1, I1, r1, a, xs, ex, hq, q⟩ => ?_) hs rfl))
  subst ex
  obtain rfl := Vals.ref1 r1
  obtain ⟨its, rv, tp, hz⟩ := I1.tuple hq
  have isT : s1.heap.IsTuple a its.toArray := by
    obtain ⟨o, e1, e2, n, e3⟩ := tp
    exact ⟨o, e1, e2, n, e3⟩
  have al : a < s1.heap.objs.size := by
    obtain ⟨o, e1, _⟩ := isT
    exact Heap.lt_size e1
  refine enum1_begins (begins_tuple a its.toArray) isT fun h' he hit hsz hk => wpAny_pyIter_enum he ?_
  have I2 : Inv X pins σ H1 { s1 with heap := h' } := I1.kept (t' := s1.toks) hk
  refine ⟨s1.heap.objs.size + 1, [s1.heap.objs.size + 1, s1.heap.objs.size], _, _, H1, rfl, I2, turn_enumT a (s1.heap.objs.size + 1) s1.heap.objs.size 0 (Nat.ne_of_lt al), ⟨⟨.none, by simpa using he⟩, ⟨_, hit, rfl, rfl⟩, Nat.succ_ne_self _, Nat.ne_of_lt (Nat.lt_succ_of_lt al)⟩, fun b hb => ?_, q⟩
  have hle : s1.heap.objs.size ≤ b := by
    rcases (show b = s1.heap.objs.size + 1 ∨ b = s1.heap.objs.size by simpa using hb) with z | z
    · rw [z]; exact Nat.le_add_right _ _
    · rw [z]; exact Nat.le_refl _
  exact I1.fpOk hle (I1.hok.fresh hle)
theorem walk_enumT {K : PySem.W.Frag} {a : Addr} {k : Int} {xs : List V} : Walk (IteT K a k) xs.length (fun H => SqT K H a xs) (YPair (fun i => some (.int (k + (i : Nat)))) (fun i => xs[i]?)) := by
  refine ⟨fun i H hi q => ⟨xs, xs[i], q, by simp [hi]⟩, fun H q => ⟨xs, q, Nat.le_refl _⟩, fun i H v H' hi q y => ?_⟩
  obtain ⟨T, x, h1, h2, h3, h4⟩ := y
  exact ⟨T, _, x, h1, h2, h3, rfl, h4 xs q⟩
end Eyes

set_option Elab.async false
set_option linter.all false
set_option maxRecDepth 100000
set_option maxHeartbeats 4000000
/-! sorted(set(texts)). -/
namespace Eyes
open PySem PySem.Spec PyProof.Rows L2
def txtE (e : Int × Value) : Str := match e.2 with | .str z _ => z | _ => Str.empty
def IsTxt (w : World) (e : Int × Value) : Prop := ∃ z tk, e.2 = Value.str z tk ∧ e.1 = hashStr w z
def TxtSet (w : World) (h : Heap) (a : Addr) (L : List Str) : Prop :=
  ∃ ob ee pp tt, h.get? a = some ob ∧ ob.ExactSet ∧ ob.data = .set ee pp tt ∧ (∀ e ∈ ee.toList, IsTxt w e) ∧ ee.toList.map txtE = L ∧ L.Nodup ∧ ee.size < scanBound ∧ tt.fits ee.size = true ∧ Ris tt.place.toList ∧ (w.params.followText "set-order" = true ∨ tt.led = true)
section
variable {P : Program} {w : World}
theorem txt_is (z : Str) (tk : Tok) : (strKind P w).is z (.str z tk) = true := by
  show Value.isStrOf z (.str z tk) = true
  simp [Value.isStrOf]
theorem txt_elems {l : List (Int × Value)} (g : ∀ e ∈ l, IsTxt w e) : ElemsOf (strKind P w) l := fun e he => by
  obtain ⟨z, tk, e1, e2⟩ := g e he
  exact ⟨⟨z, by rw [e1]; exact txt_is z tk, e2⟩, by rw [e1] <;> rfl⟩
theorem txt_key {e : Int × Value} (g : IsTxt w e) (y : Str) : (strKind P w).is y e.2 = true ↔ txtE e = y := by
  obtain ⟨z, tk, e1, _⟩ := g
  unfold txtE
  rw [e1]
  show Value.isStrOf y (.str z tk) = true ↔ z = y
  constructor
  · intro h
    exact (Value.isStrOf_inj (.str z tk) z y (by simp [Value.isStrOf]) h)
  · intro h
    subst h
    simp [Value.isStrOf]
theorem txt_mem {l : List (Int × Value)} (g : ∀ e ∈ l, IsTxt w e) (y : Str) : y ∈ l.map txtE ↔ ∃ e ∈ l, (strKind P w).is y e.2 = true := by
  rw [List.mem_map]
  exact ⟨fun ⟨e, he, q⟩ => ⟨e, he, (txt_key (g e he) y).2 q⟩, fun ⟨e, he, q⟩ => ⟨e, he, (txt_key (g e he) y).1 q⟩⟩
end
section
variable {P : Program} {w : World} {A : Around} {E : Value → Shared → Prop} {s : Shared} {a : Addr}
theorem txt_store {g : Bool → Sem Unit} (hg : ∀ (b : Bool) (s₁ : Shared) (Q' : Unit → Shared → Prop), Q' () s₁ → wpAny (model P w) A (g b) Q' E s₁) {ob : Obj} {ee : Array (Int × Value)} {pp : Nat} {tt : SetTable} (ho : s.heap.get? a = some ob) (hx : ob.ExactSet) (hd : ob.data = .set ee pp tt)
    {e1 : Array (Int × Value)} {t1 : SetTable} (g1 : ∀ e ∈ e1.toList, IsTxt w e) (nd : (e1.toList.map txtE).Nodup) (hb : e1.size < scanBound) (hf : t1.fits e1.size = true) (hr : Ris t1.place.toList) (hl : w.params.followText "set-order" = true ∨ t1.led = true) {dummy : Bool} {R : Option Bool → Shared → Prop}
    (hR : ∀ h' L', Heap.SameBut a s.heap h' → TxtSet w h' a L' → L'.Perm (e1.toList.map txtE) → R (some true) { s with heap := h' }) :
    wpAny (model P w) A (do
        storeSet a e1 t1
        if (!dummy && t1.tooFull) = true then do
            g (relayAll t1 e1 (SetTable.grown e1.size)).2.2
            storeSet a (relayAll t1 e1 (SetTable.grown e1.size)).1 (relayAll t1 e1 (SetTable.grown e1.size)).2.1
            pure (some true)
          else pure (some true)) R E s := by
  refine wpAny_bind (wpAny_storeSet_of ho hd ?_ (fits_of_scanBound hb))
  have o1 := store_at (es' := e1) (t' := t1) ho hd
  have k1 := Heap.SameBut.update s.heap a (Obj.putSet e1 t1)
  split
  · have y1 := relayAll_perm t1 e1 (SetTable.grown e1.size)
    have y2 := relayAll_fits t1 e1 (SetTable.grown e1.size)
    have y3 := relayAll_ris t1 e1 (SetTable.grown e1.size)
    have y4 := relayAll_led t1 e1 (SetTable.grown e1.size)
    generalize relayAll t1 e1 (SetTable.grown e1.size) = Y at y1 y2 y3 y4 ⊢
    obtain ⟨e2, t2, gv⟩ := Y
    dsimp only at y1 y2 y3 y4 ⊢
    have z2 : e2.size = e1.size := by rw [← Array.length_toList, y1.length_eq, Array.length_toList]
    have b2 : e2.size < scanBound := by rw [z2]; exact hb
    refine wpAny_bind (hg _ _ _ (wpAny_bind (wpAny_storeSet_of o1 rfl ?_ (fits_of_scanBound b2))))
    have o2 := store_at (es' := e2) (t' := t2) o1 rfl
    refine wpAny_pure (hR _ (e2.toList.map txtE) (k1.trans (Heap.SameBut.update _ a _)) ⟨_, e2, _, t2, o2, hx, rfl, fun e he => g1 e (y1.mem_iff.mp he), rfl, (y1.map txtE).nodup_iff.mpr nd, b2, y2, y3, ?_⟩ (y1.map txtE))
    exact hl.imp id fun z => by rw [y4]; exact z
  · exact wpAny_pure (hR _ _ k1 ⟨_, e1, _, t1, o1, hx, rfl, g1, rfl, nd, hb, hf, hr, hl⟩ (List.Perm.refl _))
theorem txt_add {z : Str} {tk : Tok} {L : List Str} {Q : Bool → Shared → Prop} (T : TxtSet w s.heap a L) (room : L.length + 1 < scanBound)
    (hQ : ∀ b h' L', Heap.SameBut a s.heap h' → TxtSet w h' a L' → (∀ y, y ∈ L' ↔ y = z ∨ y ∈ L) → L'.length ≤ L.length + 1 → Q b { s with heap := h' }) :
    wpAny (model P w) A (setAddHashed a (.str z tk) ((strKind P w).hash z)) Q E s := by
  obtain ⟨ob, ee, pp, tt, ho, hx, hd, g, rfl, nd, hb, hf, hr, hl⟩ := T
  have key : (strKind P w).is z (.str z tk) = true := txt_is z tk
  have sc : (Value.str z tk).scannable = true := rfl
  have el : ElemsOf (strKind P w) ee.toList := txt_elems g
  have len : (ee.toList.map txtE).length = ee.size := by rw [List.length_map, Array.length_toList]
  unfold setAddHashed setAddHashedIn
  refine wpAny_holding (wpAny_bind (wpAny_setState_of ho hd hf ?_))
  dsimp only
  rw [byScan_of sc hb el]
  simp only [↓reduceIte]
  unfold setAddByScan
  refine wpAny_bind (wpAny_bind (wpAny_rule (wpAny_bind (wpAny_setScan_of key ho hd hf el ?_))))
  cases hfi : List.findIdx? (fun e => (strKind P w).is z e.2) ee.toList with
  | some j =>
    dsimp only
    obtain ⟨hj, pj, _⟩ := List.findIdx?_eq_some_iff_getElem.mp hfi
    have hz : z ∈ ee.toList.map txtE := (txt_mem (P := P) g z).2 ⟨ee.toList[j], List.getElem_mem hj, pj⟩
    exact wpAny_pure (wpAny_pure (hQ _ s.heap _ (Heap.SameBut.refl a s.heap) ⟨ob, ee, pp, tt, ho, hx, hd, g, rfl, nd, hb, hf, hr, hl⟩ (fun y => ⟨.inr, fun q => q.elim (fun e => e ▸ hz) id⟩) (Nat.le_succ _)))
  | none =>
    dsimp only
    have hz : z ∉ ee.toList.map txtE := fun q => by
      obtain ⟨e, he, q⟩ := (txt_mem (P := P) g z).1 q
      have c := List.findIdx?_eq_none_iff.mp hfi e he
      rw [q] at c
      cases c
    have way : ∀ (b : Bool) {s₁ : Shared} {Q' : Unit → Shared → Prop}, Q' () s₁ → wpAny (model P w) A (match b with | true => rule "set.scan.the-table-gave-way" | false => pure ()) Q' E s₁ := fun b s₁ Q' q => by
      cases b
      · exact wpAny_pure q
      · exact wpAny_rule q
    have y1 := layNew_perm tt ee ((strKind P w).hash z) (.str z tk)
    have y2 := layNew_fits tt ee ((strKind P w).hash z) (.str z tk)
    have y3 := layNew_ris tt ee ((strKind P w).hash z) (.str z tk) hr
    have y4 := layNew_led tt ee ((strKind P w).hash z) (.str z tk)
    generalize layNew tt ee ((strKind P w).hash z) (.str z tk) = Y at y1 y2 y3 y4 ⊢
    obtain ⟨e1, t1, dummy, gv⟩ := Y
    dsimp only at y1 y2 y3 y4 ⊢
    rw [Array.toList_push] at y1
    have pc : e1.toList.Perm (((strKind P w).hash z, Value.str z tk) :: ee.toList) := y1.trans (List.perm_append_singleton _ _)
    have pk : (e1.toList.map txtE).Perm (z :: ee.toList.map txtE) := pc.map txtE
    have g1 : ∀ e ∈ e1.toList, IsTxt w e := fun e he => by
      rcases List.mem_cons.mp (pc.mem_iff.mp he) with q | q
      · rw [q]
        exact ⟨z, tk, rfl, rfl⟩
      · exact g e q
    have nd1 : (e1.toList.map txtE).Nodup := pk.nodup_iff.mpr (List.nodup_cons.mpr ⟨hz, nd⟩)
    have sz : e1.size = ee.size + 1 := by rw [← Array.length_toList, pc.length_eq, List.length_cons, Array.length_toList]
    have hb1 : e1.size < scanBound := by rw [sz, ← len]; exact room
    have led : w.params.followText "set-order" = true ∨ t1.led = true := hl.imp id fun q => by rw [y4]; exact q
    have fin : ∀ h' L', Heap.SameBut a s.heap h' → TxtSet w h' a L' → L'.Perm (e1.toList.map txtE) → ∀ b, Q b { s with heap := h' } := fun h' L' k T' p b =>
      hQ b h' L' k T' (fun y => by rw [p.mem_iff, pk.mem_iff, List.mem_cons]) (by rw [p.length_eq, pk.length_eq, List.length_cons]; exact Nat.le_refl _)
    refine wpAny_bind (way _ ?_)
    split
    · refine wpAny_bind ?_
      rw [hashByValue_scannable 8 sc]
      refine wpAny_pure (txt_store ?_ ho hx hd g1 nd1 hb1 ?_ ?_ ?_ ?_)
      · intro b s₁ Q' q
        cases b
        · exact wpAny_pure q
        · exact wpAny_rule q
      · first | (split <;> first | exact y2 | exact SetTable.fits_plain_off y2) | exact y2
      · first | (split <;> exact y3) | exact y3
      · first | (split <;> exact led) | exact led
      · intro h' L' k T' p
        dsimp only
        exact wpAny_pure (fin h' L' k T' p _)
    · refine wpAny_bind (wpAny_pure ?_)
      simp only [↓reduceIte]
      refine txt_store ?_ ho hx hd g1 nd1 hb1 y2 y3 led ?_
      · intro b s₁ Q' q
        cases b
        · exact wpAny_pure q
        · exact wpAny_rule q
      · intro h' L' k T' p
        dsimp only
        exact wpAny_pure (fin h' L' k T' p _)
theorem TxtSet.at {h h' : Heap} {L : List Str} (T : TxtSet w h a L) (k : ∀ o, h.get? a = some o → h'.get? a = some o) : TxtSet w h' a L := by
  obtain ⟨o, e, p, t, ho, r⟩ := T
  exact ⟨o, e, p, t, k o ho, r⟩
abbrev noSet (w : World) : Obj := { cls := .type "set", dict := none, data := .set #[] 0 (.fresh 0 0 (!w.params.followText "set-order")) }
theorem txt_fresh {h : Heap} : TxtSet w (h.push (noSet w)) h.objs.size [] :=
  ⟨_, #[], 0, _, Heap.get?_push_size _ rfl, ⟨rfl, rfl, rfl⟩, rfl, (fun e he => by simp at he), rfl, .nil, (by decide), (by rfl), List.Pairwise.nil, by
    show _ ∨ (!w.params.followText "set-order") = true
    cases w.params.followText "set-order"
    · exact .inr rfl
    · exact .inl rfl⟩
end
/-! ### set(texts) -/
section
variable {P : Program} {w : World} {A : Around} {R : Result → Shared → Prop} {I : Addr} {fp wr : List Addr} {G : Array GenState → Array GenState → Prop} {n : Nat} {Pv : Nat → Value → Prop} {St : Nat → Shared → Prop}
theorem txt_loop (W : WalksS P w A.in1 I fp wr G n Pv St) (S : Addr) (hS : S ∉ fp) (xs : List Str) (hv : ∀ i v, Pv i v → ∃ z t, xs[i]? = some z ∧ v = .str z t) (hn : n = xs.length) (hb : n + 1 < scanBound) :
    ∀ (k i : Nat) (s : Shared), n - i = k → i ≤ n → St i s → (∃ L, TxtSet w s.heap S L ∧ (∀ y, y ∈ L ↔ y ∈ xs.take i) ∧ L.length ≤ i) →
      (∀ s' L, Moved (S :: wr) G s s' → TxtSet w s'.heap S L → (∀ y, y ∈ L ↔ y ∈ xs) → L.length ≤ n → R (.ok (.ret .none)) s') →
      codeAny (model P w) A (.builtin "set.update.loop" ⟨[.ref S, .ref I], []⟩) R s := by
  have hw : S ∉ wr := fun h => hS (W.sub _ h)
  have sub : ∀ b ∈ wr, b ∈ S :: wr := fun b hb => List.mem_cons_of_mem _ hb
  intro k
  induction k with
  | zero =>
    intro i s hk hi hst ⟨L, T, hL, hl⟩ hR
    obtain rfl : i = n := by omega
    refine codeAny_builtin F.entry_set_update_loop ?_
    rw [Around.under_plainId F.plain_set_update_loop _]
    show wpAny _ A.in1 (pyNext (.ref I) >>= _) _ _ s
    refine wpAny_bind (W.done s _ _ hst fun s' hm => ?_)
    show wpAny _ A.in1 (ret Value.none) _ _ s'
    exact wpAny_pure (hR s' L (hm.mono sub) (T.at fun o e => hm.heap S _ hw e) (fun y => by rw [hL y, hn, List.take_length]) hl)
  | succ k ih =>
    intro i s hk hi hst ⟨L, T, hL, hl⟩ hR
    have lt : i < n := by omega
    refine codeAny_builtin F.entry_set_update_loop ?_
    rw [Around.under_plainId F.plain_set_update_loop _]
    show wpAny _ A.in1 (pyNext (.ref I) >>= _) _ _ s
    refine wpAny_bind (W.item i s _ _ lt hst fun v s' hP hst' hm => ?_)
    obtain ⟨z, t, hz, rfl⟩ := hv i v hP
    have T' : TxtSet w s'.heap S L := T.at fun o e => hm.heap S _ hw e
    show wpAny _ A.in1 (holding [Value.str z t] (setAdd S (.str z t)) >>= _) _ _ s'
    refine wpAny_bind (wpAny_holding ?_)
    unfold setAdd
    refine wpAny_holding (wpAny_bind ((strKind P w).pyHash (k := z) (txt_is _ _) ?_))
    refine txt_add T' (by omega) fun b h' L' hsb T2 m2 l2 => ?_
    refine wpAny_pure ⟨plainId_quiet F.plain_set_update_loop _, ih (i + 1) _ (by omega) lt (W.frame _ s' _ _ hst' (by first | exact Nat.le_succ _ | exact Nat.le_refl _) fun b hb o e => ?_) ⟨L', T2, fun y => ?_, by omega⟩ fun s'' L3 hm'' T3 m3 l3 => ?_⟩
    · rw [hsb.2 b (fun h : b = S => hS (by rw [← h]; exact hb))]; exact e
    · rw [m2 y, hL y, List.take_add_one, hz, List.mem_append]
      show y = z ∨ y ∈ xs.take i ↔ y ∈ xs.take i ∨ y ∈ [z]
      rw [List.mem_singleton]
      exact Or.comm
    · refine hR s'' L3 (Moved.trans W.gtrans ((hm.mono sub).then_heap (by first | exact Nat.le_succ _ | exact Nat.le_refl _) fun b o hb e => ?_) hm'') T3 m3 l3
      rw [hsb.2 b (fun h : b = S => hb (by rw [h]; exact List.mem_cons_self))]; exact e
end
end Eyes

set_option Elab.async false
set_option linter.all false
set_option maxRecDepth 100000
set_option maxHeartbeats 8000000
namespace Eyes
open PySem PySem.Spec PyProof.Rows L2
section
variable {P : Program} {w : World} {A : Around} {E : Value → Shared → Prop} {s : Shared}
theorem new_set1 (v : Value) {Q1 : Value → Shared → Prop} (q : Q1 (.ref s.heap.objs.size) { s with heap := s.heap.push (noSet w) }) :
    codeAny (model P w) A (.call (.builtin "set.__new__") ⟨[.type "set", v], []⟩) (wants Q1 E) s := by
  refine codeAny_of_tree ?_
  show wpAny _ A.in1 (do checkBuiltinCall "set.__new__" ⟨[.type "set", v], []⟩; again (.builtin "set.__new__" ⟨[.type "set", v], []⟩)) _ _ s
  refine wpAny_bind (wpAny_of_eq (PySem.F.newCall_set_1 v) (wpAny_pure ⟨plainId_quiet PySem.F.plain_set_new _, codeAny_builtin PySem.F.entry_set_new ?_⟩))
  rw [Around.under_plainId PySem.F.plain_set_new _]
  unfold Builtin.«set.__new__» Builtin.Frozenset.newClass
  have subS := sub_set_self
  obtain ⟨hp, g, d, tk, os⟩ := s
  dsimp only
  wp_walk
  refine wpAny_askSetting (wpAny_pure ?_)
  dsimp only
  simp only [newObj]
  exact wpAny_bind (wpAny_alloc (wpAny_pure (wpAny_pure q)))
theorem call_setT {l : Addr} {items : Array Value} {xs : List Str} {Q : Value → Shared → Prop} (hh : A.handled = none) (hl : s.heap.IsList l items) (hi : StrsAre items.toList xs) (hb : items.size + 1 < scanBound)
    (q : ∀ (h' : Heap) (tk : Nat) (L : List Str), TxtSet w h' s.heap.objs.size L → (∀ y, y ∈ L ↔ y ∈ xs) → L.length ≤ items.size → (∀ b o, b < s.heap.objs.size → s.heap.get? b = some o → h'.get? b = some o) → Q (.ref s.heap.objs.size) { s with heap := h', toks := tk }) :
    wpAny (model P w) A (call (.type "set") [.ref l]) Q E s := by
  obtain ⟨c, tl, hmro⟩ := PySem.F.called_set.mro
  have m1 := PySem.F.called_set.made; have m2 := PySem.F.called_set.sub
  refine wpAny_call (codeAny_of_tree ?_)
  show wpAny _ _ (callAny (.type "set") _) _ _ _
  refine wpAny_pure ⟨Code.quiet_builtin _ (by decide +kernel), codeAny_builtin F.entry_type_call ?_⟩
  rw [Around.under_plain (weight_type_call_type "set" [.ref l] []) rfl]
  have m3 := PySem.F.called_set.notType; have m4 := PySem.F.called_set.canCreate; have m5 := PySem.F.typeCall_set_1 (.ref l)
  repeat (any_goals (first | assumption | wp_step))
  refine codeAny_mono (new_set1 (.ref l) (E := E) (Q1 := fun ob s₁ => ob = .ref s.heap.objs.size ∧ s₁ = { s with heap := s.heap.push (noSet w) }) ⟨rfl, rfl⟩) fun r s₁ hr => ?_
  cases r with
  | error e => exact hr
  | ok fl =>
    cases fl with
    | ret ob =>
      obtain ⟨rfl, rfl⟩ := hr
      have hS : (s.heap.push (noSet w)).get? s.heap.objs.size = some (noSet w) := Heap.get?_push_size _ rfl
      have hT : Shared.TypeIs { s with heap := s.heap.push (noSet w) } (.ref s.heap.objs.size) "set" := ⟨_, hS, rfl⟩
      have n1 := PySem.F.called_set.init.lookup; have n2 := PySem.F.called_set.init.bind (.ref s.heap.objs.size)
      repeat (any_goals (first | assumption | wp_step))
      refine codeAny_mono (codeAny_call_builtin (R := wants (fun r s₂ => r = .none ∧ ∃ h' tk L, s₂ = { s with heap := h', toks := tk } ∧ TxtSet w h' s.heap.objs.size L ∧ (∀ y, y ∈ L ↔ y ∈ xs) ∧ L.length ≤ items.size ∧
          (∀ b o, b < s.heap.objs.size → s.heap.get? b = some o → h'.get? b = some o)) E) PySem.F.called_set.init.plain PySem.F.entry_set_init (check_set_init_1 hT ?_)) fun r₂ s₂ hr₂ => ?_
      · obtain ⟨ol, hol, hcl, nl, hdl⟩ := hl
        obtain ⟨oc, od, odt, osl⟩ := ol
        simp only at hcl hdl
        subst hcl
        subst hdl
        have at1 : (s.heap.push (noSet w)).get? l = some { cls := .type "list", dict := od, data := .seq items nl, slots := osl } := Heap.get?_push_of_some _ hol
        have f1 := PySem.F.sub_list_set; have f2 := PySem.F.sub_list_frozenset
        have f3 : (Value.type "list" == Value.type "dict") = false := by decide
        have isL : (s.heap.push (noSet w)).IsList l items := ⟨_, at1, rfl, nl, rfl⟩
        unfold Builtin.«set.__init__» noKeywords Builtin.Frozenset.updateFrom
        generalize hPI : pyIter = PI
        wp_walk
        subst hPI
        refine wpAny_pyIter_list isL (wpAny_bind (wpAny_runValue ?_))
        have lS : l < s.heap.objs.size := Heap.lt_size hol
        have hh3 : A.in1.in1.in1.handled = none := by simp [hh]
        have neI : l ≠ (s.heap.push (noSet w)).objs.size := by
          rw [Heap.size_push]
          exact Nat.ne_of_lt (Nat.lt_succ_of_lt lS)
        have nin : s.heap.objs.size ∉ [(s.heap.push (noSet w)).objs.size, l] := by
          rw [Heap.size_push]
          simp only [List.mem_cons, List.mem_singleton, List.not_mem_nil, or_false, not_or]
          exact ⟨Nat.ne_of_lt (Nat.lt_succ_self _), Nat.ne_of_gt lS⟩
        have len : xs.length = items.size := by
          have z : xs.length = items.toList.length := by rw [← hi.strs, List.length_map]
          rw [z, Array.length_toList]
        have val : ∀ (i : Nat) (v : Value), items[i]? = some v → ∃ z t, xs[i]? = some z ∧ v = .str z t := fun i v hv => by
          obtain ⟨z, t, e⟩ := hi.all v (by rw [← Array.getElem?_toList] at hv; exact List.mem_of_getElem? hv)
          subst e
          refine ⟨z, t, ?_, rfl⟩
          rw [← hi.strs, List.getElem?_map, Array.getElem?_toList, hv]
          rfl
        refine txt_loop ((Walks.list hh3 _ l neI items).toS) s.heap.objs.size nin xs val len.symm hb (items.size - 0) 0 _ (by omega) (Nat.zero_le _)
          ⟨⟨_, Heap.get?_push_size _ rfl, rfl, rfl⟩, (isL.push _)⟩ ⟨[], txt_fresh.at fun o e => Heap.get?_push_of_some _ e, fun y => by simp, Nat.le_refl _⟩ fun s' L hm T mL lL => ?_
        obtain ⟨h', g', d', tk', os'⟩ := s'
        obtain rfl : g' = s.gens := hm.gens
        obtain rfl : d' = s.drawn := hm.drawn
        obtain rfl : os' = s.os := hm.os
        show wpAny _ _ _ _ _ _
        refine wpAny_pure ?_
        show wpAny _ _ (ret Value.none) _ _ _
        refine wpAny_pure ⟨rfl, h', tk', L, rfl, T, mL, lL, fun b o hb e => ?_⟩
        refine hm.heap b o ?_ (Heap.get?_push_of_some _ (Heap.get?_push_of_some _ e))
        rw [Heap.size_push]
        simp only [List.mem_cons, List.mem_singleton, List.not_mem_nil, or_false, not_or]
        exact ⟨Nat.ne_of_lt hb, Nat.ne_of_lt (Nat.lt_succ_of_lt hb)⟩
      · cases r₂ with
        | error e => exact hr₂
        | ok fl₂ =>
          cases fl₂ with
          | ret r =>
            obtain ⟨rfl, h', tk, L, rfl, T, mL, lL, kp⟩ := hr₂
            repeat (any_goals (first | assumption | wp_step))
            exact q _ _ L T mL lL kp
          | _ => exact hr₂.elim
    | _ => exact hr.elim
theorem sorted_setT {a : Addr} {L : List Str} {Q : Value → Shared → Prop} (T : TxtSet w s.heap a L) (hh : A.handled = none) (h64 : L.length < 64)
    (q : ∀ s' p (out : Array Value) (c : Nat) (ys : List Str), (∀ b o, s.heap.get? b = some o → s'.heap.get? b = some o) → s'.gens = s.gens → s'.os = s.os → s.heap.objs.size ≤ p → s'.heap.get? p = some (seqObj "list" out c) → StrsAre out.toList ys → ys.Perm L → sortedS ys = true → L.Nodup → Q (.ref p) s') :
    wpAny (model P w) A (call (.builtin "sorted") [.ref a]) Q E s := by
  obtain ⟨ob, ee, pp, tt, ho, hx, hd, g, rfl, nd, hb, hf, hr, hl⟩ := T
  refine Calls.call_function_entry kind_sorted plain_sorted entry_sorted (args_sorted1 _) ?_
  unfold Builtin.«sorted»
  refine wpAny_bind (m := checkCount "sorted" 1 1 _) (wpAny_pure (wpAny_bind (collect_set (A := A.in1) hh ⟨ob, ho, hx.1, hd⟩ hf hb hr hl fun s1 vs k1 hz g1 o1 pm => ?_)))
  have all : ∀ v ∈ vs, ∃ x t, v = Value.str x t := fun v hv => by
    obtain ⟨e, he, e1⟩ := List.mem_map.mp (pm.mem_iff.mp hv)
    obtain ⟨z, tk, e2, _⟩ := g e he
    exact ⟨z, tk, by rw [← e1, e2]⟩
  have sr := strsAre_map vs all
  have pz : (vs.map strOf).Perm (ee.toList.map txtE) := by
    have y := pm.map strOf
    rw [List.map_map] at y
    refine y.trans (List.Perm.of_eq (List.map_congr_left fun e he => ?_))
    obtain ⟨z, tk, e2, _⟩ := g e he
    show strOf e.2 = txtE e
    unfold txtE
    rw [e2]
    rfl
  have vl : vs.length < 64 := by
    rw [← List.length_map (f := strOf), pz.length_eq]
    exact h64
  refine wpAny_bind (wpAny_newList ?_ (by rw [sizeLine_eq]; omega))
  have oL : (s1.heap.push (seqObj "list" vs.toArray 0)).get? s1.heap.objs.size = some (seqObj "list" vs.toArray 0) := Heap.get?_push_size _ rfl
  refine wpAny_bind (wpAny_holding (wpAny_call_entry slot_list_sort ⟨_, oL, rfl⟩ entry_list_sort
    (list_sort_treeK strKind_oneLt oL sr.keysOf (fun v₁ v₂ rest e => keyKind_strs (by rw [← e]; exact sr)) vl fun st' hp hs => ?_) (args_list_sort _)))
  obtain ⟨ys, a1, a2, a3⟩ := sorted_out_str sr hp hs
  obtain ⟨c, hc⟩ := sortedHeap_at (vs := vs) (out := (arrOf st').map (·.2)) oL
  refine ⟨_, rfl, wpAny_pure ⟨_, rfl, q _ s1.heap.objs.size _ c ys (fun b u e => ?_) g1 o1 hz hc a1 (a2.trans pz) a3 nd⟩⟩
  have y := k1 b u e
  have lt := Heap.lt_size y
  show (sortedHeap (s1.heap.push (seqObj "list" vs.toArray 0)) s1.heap.objs.size vs _).get? b = some u
  rw [sortedHeap_old (Nat.ne_of_lt lt) (by rw [Heap.size_push]; exact Nat.lt_succ_of_lt lt)]
  exact Heap.get?_push_of_some _ y
end
def tSortedSet (K : PySem.W.Frag) (te : TE) : TE := fun σ H Q => te σ H fun x H1 => ∃ (a : Addr) (xs : List Str), x = .ref a ∧ SqL K H1 a (xs.map V.str) ∧ xs.length < 64 ∧
  ∀ (ys : List Str) (p : Addr), sortedS ys = true → ys.Nodup → (∀ y, y ∈ ys ↔ y ∈ xs) → H1 p = none → Q (.ref p) (upd H1 p (.lst (ys.map V.str)))
section
variable {X : Cx} {K : PySem.W.Frag} {e : Expr} {te : TE} {p1 p2 q1 q2 : Pos}
theorem pe_sortedSet (hK : X.K = K) (hc : X.calm = true) (he : PE X e te) (hg1 : Gl X "sorted") (hm1 : X.mg "sorted" = none) (hg2 : Gl X "set") (hm2 : X.mg "set" = none)
    (hs : starEach [.Call (.Name "set" p2) [e] [] q2] X.env = (false, eval (.Call (.Name "set" p2) [e] [] q2) X.env) :: starEach [] X.env := by rfl)
    (hs2 : starEach [e] X.env = (false, eval e X.env) :: starEach [] X.env := by rfl) :
    PE X (.Call (.Name "sorted" p1) [.Call (.Name "set" p2) [e] [] q2] [] q1) (tSortedSet K te) := by
  subst hK
  refine ⟨fun pins s σ H Q I h => ?_⟩
  refine wpAny_Call_Name_kw (ld_blt I hg1 hm1 PyProof.Rows.boot_sorted ?_)
  refine PyProof.Rows.callWith_builtin1 ?_ hs rfl
  rw [hs]
  refine Calls.spliced_cons ?_
  refine wpAny_Call_Name_kw (ld_blt I hg2 hm2 PyProof.Rows.boot_set ?_)
  refine PyProof.Rows.callWith_type1 ?_ hs2 rfl
  rw [hs2]
  refine Calls.spliced_cons (thn (he.run pins s σ H _ I h) fun u s1 ⟨x, H1, I1, rx, a, xs, ex, hl, hz, q⟩ => ?_)
  subst ex
  obtain rfl : u = Value.ref a := rx
  obtain ⟨its, rv, pl, _⟩ := I1.list hl
  have lx : xs.length = its.length := by
    have y := rv.length
    rw [List.length_map] at y
    exact y
  refine Calls.spliced_nil ?_
  have cm := I1.ok.hd hc
  refine call_setT cm pl.isList (xs := xs) (by simpa using rv.strs) (by rw [List.size_toArray, show scanBound = 4096 from rfl]; omega) fun h' tk L T mL lL kp => ?_
  refine Calls.spliced_nil ?_
  have k1 : ∀ b o, s1.heap.get? b = some o → h'.get? b = some o := fun b o e => kp b o (Heap.lt_size e) e
  have nn : s1.heap.objs.size ≤ h'.objs.size := by
    obtain ⟨ob, _, _, _, ho, _⟩ := T
    exact Nat.le_of_lt (Heap.lt_size ho)
  rw [List.size_toArray] at lL
  refine sorted_setT T cm (by omega) fun s2 p out c ys k2 g2 o2 hp2 ho2 st pm so nd => ?_
  have kk : ∀ b o, s1.heap.get? b = some o → s2.heap.get? b = some o := fun b o e => k2 b o (k1 b o e)
  have np : s1.heap.objs.size ≤ p := Nat.le_trans nn hp2
  have fr : H1 p = none := I1.hok.fresh np
  have ly : (ys.map V.str).length ≤ sizeLine := by
    rw [List.length_map, pm.length_eq, sizeLine_eq]
    omega
  have J : Inv X pins σ (upd H1 p (.lst (ys.map V.str))) { s1 with heap := s2.heap, gens := s2.gens, drawn := s2.drawn, toks := s2.toks } :=
    I1.call (ch := []) (Un.laid kk np fr) (I1.hok.laid kk np ⟨ly, out.toList, c, vals_of_strs st, ho2⟩) (by rw [g2]; exact I1.bare) (fun _ y => nomatch y)
  have es : s2 = { s1 with heap := s2.heap, gens := s2.gens, drawn := s2.drawn, toks := s2.toks } := by
    cases s2
    cases s1
    cases o2
    rfl
  rw [es]
  exact ⟨.ref p, _, J, rfl, q ys p so (pm.nodup_iff.mpr nd) (fun y => by rw [pm.mem_iff, mL]) fr⟩
end
end Eyes

set_option Elab.async false
set_option linter.all false
set_option maxRecDepth 100000
set_option maxHeartbeats 4000000
/-! ==, repr() and bool() of own instances; either of two rules. -/
namespace Eyes
open PySem PySem.Spec PyProof.Rows L2
def EqTo (K : PySem.W.Frag) (C : Addr) (H : Hp) (y : V) : Prop :=
  (∃ z, y = .str z ∧ PySem.W.notFirst K C (.type "str") = true) ∨ (∃ b zs, y = .ref b ∧ H b = some (.lst zs) ∧ PySem.W.notFirst K C (.type "list") = true) ∨ ∃ b dy gs, y = .ref b ∧ H b = some (.ins C dy gs)
def rEqOwn (K : PySem.W.Frag) (C : Addr) (sp : Sp) : R2 := fun x y H Q => ∃ a dx fs, x = .ref a ∧ H a = some (.ins C dx fs) ∧ EqTo K C H y ∧ sp [.ref a, y] H Q (fun _ _ _ => False)
def rReprOwn (C : Addr) (sp : Sp) : List V → Hp → VK → Prop := fun xs H Q => ∃ a dx fs, xs = [.ref a] ∧ H a = some (.ins C dx fs) ∧ sp [.ref a] H (fun v H' => ∃ z, v = .str z ∧ Q v H') (fun _ _ _ => False)
def rBoolOwn (K : PySem.W.Frag) (C : Addr) : List V → Hp → VK → Prop := fun xs H Q => ∃ a dx fs, xs = [.ref a] ∧ H a = some (.ins C dx fs) ∧ PySem.W.findIn K (.ref C) "__bool__" = some none ∧ PySem.W.findIn K (.ref C) "__len__" = some none ∧ Q (.bl true) H
theorem truthy_own {M : Model} {A : Around} {E : Value → Shared → Prop} {s : Shared} {K : PySem.W.Frag} {x C : Addr} {ox : Obj} {od : Option Obj} {Q : Bool → Shared → Prop} (X : K.In s.heap) (I : PySem.W.InstAt s.heap x ox C od) (hs : PySem.W.findIn K (.ref C) "__bool__" = some none) (hl : PySem.W.findIn K (.ref C) "__len__" = some none) (h : Q true s) :
    wpAny M A (truthy (.ref x)) Q E s := by
  unfold truthy
  refine wpAny_bind (m := callSpecial? (.ref x) (Str.ofString "__bool__")) (wpAny_bind (wpAny_bind (I.type.here ((PySem.W.looks_findIn X hs).here (wpAny_pure ?_)))))
  refine wpAny_bind (wpAny_bind (I.type.here ((PySem.W.looks_findIn X hl).here ?_)))
  exact wpAny_pure h
theorem meets_boolOwn {K : PySem.W.Frag} {x C : Addr} {ox : Obj} {od : Option Obj} (hs : PySem.W.findIn K (.ref C) "__bool__" = some none) (hl : PySem.W.findIn K (.ref C) "__len__" = some none) :
    Meets (Builtin.«bool.__new__» ⟨[.type "bool", .ref x], []⟩) (fun _ R s => (K.In s.heap ∧ PySem.W.InstAt s.heap x ox C od) ∧ R (.ok (.ret (.bool true))) s) :=
  Meets.of_wp fun prog w A R s hr => by
    obtain ⟨⟨X, I⟩, hr⟩ := hr
    obtain ⟨hp, g, d, tk, os⟩ := s
    have f1 := PySem.F.conv_sub_bool
    repeat (any_goals (first | assumption | (with_reducible refine truthy_own X I hs hl ?_) | wp_step))
    all_goals first | exact ⟨_, rfl, hr⟩ | exact hr | skip
section
variable {X : Cx} {C : Addr} {j k : Nat} {ps : List Str} {sp : Sp}
theorem op_eqOwn (G : PrM X.prog X.w X.K X.mg X.base C "__eq__" ps j sp) (hr : Room k X.A) (hj : j ≤ k := by first | decide | omega) : OpR X (compareOp .Eq) (rEqOwn X.K C sp) := by
  intro pins s σ H x y v u Q I rx ry h
  obtain ⟨f, fd, M, hb, F⟩ := G
  obtain ⟨a, dx, fs, rfl, ha, hy, q⟩ := h
  cases rx
  obtain ⟨mA, J, _⟩ := ins_get I.hok ha
  obtain ⟨od, J, _⟩ := J.look
  obtain ⟨m, hF⟩ := I.fr
  have hrj := hr.mono hj
  have go : ∀ {tb : Value}, PySem.W.Looks (model X.prog X.w) s.heap (typeOf u) tb → PySem.W.notFirst X.K C tb = true → wpAny (model X.prog X.w) X.A (compareOp .Eq (.ref a) u) (EP X pins σ Q) X.xe s := fun {tb} L hn => by
    refine PySem.W.cmp_ofEq (PySem.W.cmp_K hrj.units0 hF I.ok.mod.kin J L hn M.at_ M.fn ?_)
    exact run_at F hb (fun _ _ _ _ _ _ _ h => h.elim) hrj rfl I (vs := [.ref a, y]) (.cons rfl (.cons ry .nil)) q fun v u s' H' I' rv qv => cmpBack_of rv ⟨v, H', I', rv, qv⟩
  rcases hy with ⟨z, rfl, hn⟩ | ⟨b, zs, rfl, hz, hn⟩ | ⟨b, dy, gs, rfl, hz⟩
  · obtain ⟨t, rfl⟩ := ry
    exact go (PySem.W.Looks.of_pure rfl) hn
  · cases ry
    obtain ⟨_, its, n, _, ho⟩ := I.hok b _ hz
    exact go (fun A Q E s k q => wpAny_typeOf_ref (k _ _ ho) q) hn
  · cases ry
    obtain ⟨mB, J', _⟩ := ins_get I.hok hz
    obtain ⟨od', J', _⟩ := J'.look
    exact go J'.type (by unfold PySem.W.notFirst; simp)
theorem call_reprOwn (G : PrM X.prog X.w X.K X.mg X.base C "__repr__" ps j sp) (hr : Room k X.A) (hj : j + 2 ≤ k := by first | decide | omega) : CallR X (.builtin "repr") (rReprOwn C sp) := by
  intro pins s σ H xs us Q I r h
  obtain ⟨f, fd, M, hb, F⟩ := G
  obtain ⟨a, dx, fs, rfl, ha, q⟩ := h
  obtain ⟨u, rfl, ru⟩ := vals1 r
  cases ru
  obtain ⟨mA, J, _⟩ := ins_get I.hok ha
  obtain ⟨od, J, _⟩ := J.look
  obtain ⟨m, hF⟩ := I.fr
  have hr2 : Room j X.A.in1 := (hr.mono (show j + 1 ≤ k by omega)).in1
  refine PySem.W.repr_K hr2.units0 hF I.ok.mod.kin J M.at_ M.fn ?_
  refine run_at F hb (fun _ _ _ _ _ _ _ h => h.elim) hr2 rfl I (vs := [.ref a]) (.cons rfl .nil) q fun v u s' H' I' rv qv => ?_
  obtain ⟨z, rfl, qv⟩ := qv
  obtain ⟨t, rfl⟩ := rv
  exact ⟨.str z, H', I', ⟨t, rfl⟩, qv⟩
theorem call_boolOwn : CallR X (.type "bool") (rBoolOwn X.K C) := by
  intro pins s σ H xs us Q I r h
  obtain ⟨a, dx, fs, rfl, ha, h1, h2, q⟩ := h
  obtain ⟨u, rfl, ru⟩ := vals1 r
  cases ru
  obtain ⟨mA, J, _⟩ := ins_get I.hok ha
  obtain ⟨od, J, _⟩ := J.look
  refine call_bool_1 (meets_boolOwn (K := X.K) (od := some od) h1 h2) ⟨⟨I.kIn, J⟩, ?_⟩
  exact ⟨rfl, .bl true, H, I, rfl, q⟩
theorem pi_listK {K : PySem.W.Frag} (hK : X.K = K) {tg l : Expr} {tl : TE} (hl : PE X l tl) : PI X tg l (iList K tl) := hK ▸ pi_list hl
theorem opR_or {f : Value → Value → Sem Value} {r1 r2 : R2} (h1 : OpR X f r1) (h2 : OpR X f r2) : OpR X f (fun x y H Q => r1 x y H Q ∨ r2 x y H Q) := by
  intro pins s σ H x y v u Q I rx ry h
  rcases h with h | h
  · exact h1 pins s σ H x y v u Q I rx ry h
  · exact h2 pins s σ H x y v u Q I rx ry h
theorem pi_or {tg it : Expr} {w1 w2 : TI} (h1 : PI X tg it w1) (h2 : PI X tg it w2) : PI X tg it (fun σ H Q => w1 σ H Q ∨ w2 σ H Q) := by
  refine ⟨fun pins s σ H Q I h => ?_⟩
  rcases h with h | h
  · exact h1.run pins s σ H Q I h
  · exact h2.run pins s σ H Q I h
theorem call_or {v : Value} {r1 r2 : List V → Hp → VK → Prop} (h1 : CallR X v r1) (h2 : CallR X v r2) : CallR X v (fun xs H Q => r1 xs H Q ∨ r2 xs H Q) := by
  intro pins s σ H xs us Q I r h
  rcases h with h | h
  · exact h1 pins s σ H xs us Q I r h
  · exact h2 pins s σ H xs us Q I r h
end
section
variable {X : Cx}
theorem call_len_seqK {K : PySem.W.Frag} (hK : X.K = K) : CallR X (.builtin "len") (fun xs H Q => ∃ p ys, xs = [V.ref p] ∧ (SqL K H p ys ∨ SqT K H p ys) ∧ Q (V.int (ys.length : Nat)) H) := hK ▸ call_len_seq
theorem call_isiK {K : PySem.W.Frag} (hK : X.K = K) : CallR X (.builtin "isinstance") (rIsi K) := hK ▸ call_isi
end
end Eyes

set_option Elab.async false
set_option linter.all false
set_option maxRecDepth 100000
set_option maxHeartbeats 4000000
namespace Eyes
open PySem PySem.Spec PyProof.Rows L2 Evl TL
def topS (i : Nat) : Stmt := PySem.Challenge.pw_pooledeyes_k05_whole_wrong_circle_texts.main.body.getD i (.Pass ⟨0, 0, 0, 0⟩)
abbrev s_InvalidName___init : Stmt := inClass (topS 2) 0
abbrev n_InvalidName___init : List Str := ["self", "value"]
abbrev p_InvalidName___init : List Str := ["self", "value"]
theorem sc_InvalidName___init : FnScope n_InvalidName___init p_InvalidName___init (defScope s_InvalidName___init) := ⟨rfl, rfl, rfl, by decide +kernel, rfl, by decide +kernel, by decide +kernel⟩
abbrev s_InvalidNumber___init : Stmt := inClass (topS 3) 0
abbrev n_InvalidNumber___init : List Str := ["self", "value"]
abbrev p_InvalidNumber___init : List Str := ["self", "value"]
theorem sc_InvalidNumber___init : FnScope n_InvalidNumber___init p_InvalidNumber___init (defScope s_InvalidNumber___init) := ⟨rfl, rfl, rfl, by decide +kernel, rfl, by decide +kernel, by decide +kernel⟩
abbrev s_InvalidText___init : Stmt := inClass (topS 4) 0
abbrev n_InvalidText___init : List Str := ["self", "at"]
abbrev p_InvalidText___init : List Str := ["self", "at"]
theorem sc_InvalidText___init : FnScope n_InvalidText___init p_InvalidText___init (defScope s_InvalidText___init) := ⟨rfl, rfl, rfl, by decide +kernel, rfl, by decide +kernel, by decide +kernel⟩
abbrev s_InvalidCircle___init : Stmt := inClass (topS 5) 0
abbrev n_InvalidCircle___init : List Str := ["self", "at"]
abbrev p_InvalidCircle___init : List Str := ["self", "at"]
theorem sc_InvalidCircle___init : FnScope n_InvalidCircle___init p_InvalidCircle___init (defScope s_InvalidCircle___init) := ⟨rfl, rfl, rfl, by decide +kernel, rfl, by decide +kernel, by decide +kernel⟩
abbrev s_InvalidTie___init : Stmt := inClass (topS 6) 0
abbrev n_InvalidTie___init : List Str := ["self", "at"]
abbrev p_InvalidTie___init : List Str := ["self", "at"]
theorem sc_InvalidTie___init : FnScope n_InvalidTie___init p_InvalidTie___init (defScope s_InvalidTie___init) := ⟨rfl, rfl, rfl, by decide +kernel, rfl, by decide +kernel, by decide +kernel⟩
abbrev s_InvalidParting___init : Stmt := inClass (topS 7) 0
abbrev n_InvalidParting___init : List Str := ["self", "value"]
abbrev p_InvalidParting___init : List Str := ["self", "value"]
theorem sc_InvalidParting___init : FnScope n_InvalidParting___init p_InvalidParting___init (defScope s_InvalidParting___init) := ⟨rfl, rfl, rfl, by decide +kernel, rfl, by decide +kernel, by decide +kernel⟩
abbrev s_InvalidCase___init : Stmt := inClass (topS 8) 0
abbrev n_InvalidCase___init : List Str := ["self", "value"]
abbrev p_InvalidCase___init : List Str := ["self", "value"]
theorem sc_InvalidCase___init : FnScope n_InvalidCase___init p_InvalidCase___init (defScope s_InvalidCase___init) := ⟨rfl, rfl, rfl, by decide +kernel, rfl, by decide +kernel, by decide +kernel⟩
abbrev s_TooMany___init : Stmt := inClass (topS 9) 0
abbrev n_TooMany___init : List Str := ["self", "what", "most"]
abbrev p_TooMany___init : List Str := ["self", "what", "most"]
theorem sc_TooMany___init : FnScope n_TooMany___init p_TooMany___init (defScope s_TooMany___init) := ⟨rfl, rfl, rfl, by decide +kernel, rfl, by decide +kernel, by decide +kernel⟩
abbrev s_is_name : Stmt := topS 14
abbrev n_is_name : List Str := ["value", "letter"]
abbrev p_is_name : List Str := ["value"]
theorem sc_is_name : FnScope n_is_name p_is_name (defScope s_is_name) := ⟨rfl, rfl, rfl, by decide +kernel, rfl, by decide +kernel, by decide +kernel⟩
abbrev s_without_repeats : Stmt := topS 17
abbrev n_without_repeats : List Str := ["circles", "kept", "circle", "text"]
abbrev p_without_repeats : List Str := ["circles"]
theorem sc_without_repeats : FnScope n_without_repeats p_without_repeats (defScope s_without_repeats) := ⟨rfl, rfl, rfl, by decide +kernel, rfl, by decide +kernel, by decide +kernel⟩
abbrev s_flattened : Stmt := topS 18
abbrev n_flattened : List Str := ["kind", "circles", "flat", "circle"]
abbrev p_flattened : List Str := ["kind", "circles"]
theorem sc_flattened : FnScope n_flattened p_flattened (defScope s_flattened) := ⟨rfl, rfl, rfl, by decide +kernel, rfl, by decide +kernel, by decide +kernel⟩
abbrev s_size_of : Stmt := topS 19
abbrev n_size_of : List Str := ["parts", "part"]
abbrev p_size_of : List Str := ["parts"]
theorem sc_size_of : FnScope n_size_of p_size_of (defScope s_size_of) := ⟨rfl, rfl, rfl, by decide +kernel, rfl, by decide +kernel, by decide +kernel⟩
abbrev s_depth_over : Stmt := topS 20
abbrev n_depth_over : List Str := ["parts", "part"]
abbrev p_depth_over : List Str := ["parts"]
theorem sc_depth_over : FnScope n_depth_over p_depth_over (defScope s_depth_over) := ⟨rfl, rfl, rfl, by decide +kernel, rfl, by decide +kernel, by decide +kernel⟩
abbrev s_inner_text : Stmt := topS 21
abbrev n_inner_text : List Str := ["part"]
abbrev p_inner_text : List Str := ["part"]
theorem sc_inner_text : FnScope n_inner_text p_inner_text (defScope s_inner_text) := ⟨rfl, rfl, rfl, by decide +kernel, rfl, by decide +kernel, by decide +kernel⟩
abbrev s_text_of : Stmt := topS 22
abbrev n_text_of : List Str := ["kind", "parts", "texts", "part"]
abbrev p_text_of : List Str := ["kind", "parts"]
theorem sc_text_of : FnScope n_text_of p_text_of (defScope s_text_of) := ⟨rfl, rfl, rfl, by decide +kernel, rfl, by decide +kernel, by decide +kernel⟩
abbrev s_Circle___init : Stmt := inClass (topS 23) 1
abbrev n_Circle___init : List Str := ["self", "kind", "name", "parts"]
abbrev p_Circle___init : List Str := ["self", "kind", "name", "parts"]
theorem sc_Circle___init : FnScope n_Circle___init p_Circle___init (defScope s_Circle___init) := ⟨rfl, rfl, rfl, by decide +kernel, rfl, by decide +kernel, by decide +kernel⟩
abbrev s_Circle_parts : Stmt := inClass (topS 23) 2
abbrev n_Circle_parts : List Str := ["self"]
abbrev p_Circle_parts : List Str := ["self"]
theorem sc_Circle_parts : FnScope n_Circle_parts p_Circle_parts (defScope s_Circle_parts) := ⟨rfl, rfl, rfl, by decide +kernel, rfl, by decide +kernel, by decide +kernel⟩
abbrev s_Circle_eyes : Stmt := inClass (topS 23) 3
abbrev n_Circle_eyes : List Str := ["self", "part", "name"]
abbrev p_Circle_eyes : List Str := ["self"]
theorem sc_Circle_eyes : FnScope n_Circle_eyes p_Circle_eyes (defScope s_Circle_eyes) := ⟨rfl, rfl, rfl, by decide +kernel, rfl, by decide +kernel, by decide +kernel⟩
abbrev s_Circle___str : Stmt := inClass (topS 23) 4
abbrev n_Circle___str : List Str := ["self"]
abbrev p_Circle___str : List Str := ["self"]
theorem sc_Circle___str : FnScope n_Circle___str p_Circle___str (defScope s_Circle___str) := ⟨rfl, rfl, rfl, by decide +kernel, rfl, by decide +kernel, by decide +kernel⟩
abbrev s_Circle___repr : Stmt := inClass (topS 23) 5
abbrev n_Circle___repr : List Str := ["self"]
abbrev p_Circle___repr : List Str := ["self"]
theorem sc_Circle___repr : FnScope n_Circle___repr p_Circle___repr (defScope s_Circle___repr) := ⟨rfl, rfl, rfl, by decide +kernel, rfl, by decide +kernel, by decide +kernel⟩
abbrev s_Circle___eq : Stmt := inClass (topS 23) 6
abbrev n_Circle___eq : List Str := ["self", "other"]
abbrev p_Circle___eq : List Str := ["self", "other"]
theorem sc_Circle___eq : FnScope n_Circle___eq p_Circle___eq (defScope s_Circle___eq) := ⟨rfl, rfl, rfl, by decide +kernel, rfl, by decide +kernel, by decide +kernel⟩
abbrev s_Circle___and : Stmt := inClass (topS 23) 7
abbrev n_Circle___and : List Str := ["self", "other"]
abbrev p_Circle___and : List Str := ["self", "other"]
theorem sc_Circle___and : FnScope n_Circle___and p_Circle___and (defScope s_Circle___and) := ⟨rfl, rfl, rfl, by decide +kernel, rfl, by decide +kernel, by decide +kernel⟩
abbrev s_Circle___or : Stmt := inClass (topS 23) 8
abbrev n_Circle___or : List Str := ["self", "other"]
abbrev p_Circle___or : List Str := ["self", "other"]
theorem sc_Circle___or : FnScope n_Circle___or p_Circle___or (defScope s_Circle___or) := ⟨rfl, rfl, rfl, by decide +kernel, rfl, by decide +kernel, by decide +kernel⟩
abbrev s_eye : Stmt := topS 24
abbrev n_eye : List Str := ["name"]
abbrev p_eye : List Str := ["name"]
theorem sc_eye : FnScope n_eye p_eye (defScope s_eye) := ⟨rfl, rfl, rfl, by decide +kernel, rfl, by decide +kernel, by decide +kernel⟩
abbrev s_built : Stmt := topS 25
abbrev n_built : List Str := ["kind", "circles", "parts"]
abbrev p_built : List Str := ["kind", "circles"]
theorem sc_built : FnScope n_built p_built (defScope s_built) := ⟨rfl, rfl, rfl, by decide +kernel, rfl, by decide +kernel, by decide +kernel⟩
abbrev s_read_circle : Stmt := topS 29
abbrev n_read_circle : List Str := ["text", "tree", "end"]
abbrev p_read_circle : List Str := ["text"]
theorem sc_read_circle : FnScope n_read_circle p_read_circle (defScope s_read_circle) := ⟨rfl, rfl, rfl, by decide +kernel, rfl, by decide +kernel, by decide +kernel⟩
abbrev s_is_circle_text : Stmt := topS 30
abbrev n_is_circle_text : List Str := ["value", "circle"]
abbrev p_is_circle_text : List Str := ["value"]
theorem sc_is_circle_text : FnScope n_is_circle_text p_is_circle_text (defScope s_is_circle_text) := ⟨rfl, rfl, rfl, by decide +kernel, rfl, by decide +kernel, by decide +kernel⟩
abbrev s_read_row : Stmt := topS 31
abbrev n_read_row : List Str := ["text", "start", "opened", "tree", "at", "sign", "trees"]
abbrev p_read_row : List Str := ["text", "start", "opened"]
theorem sc_read_row : FnScope n_read_row p_read_row (defScope s_read_row) := ⟨rfl, rfl, rfl, by decide +kernel, rfl, by decide +kernel, by decide +kernel⟩
abbrev s_read_item : Stmt := topS 32
abbrev n_read_item : List Str := ["text", "start", "opened", "tree", "at", "name"]
abbrev p_read_item : List Str := ["text", "start", "opened"]
theorem sc_read_item : FnScope n_read_item p_read_item (defScope s_read_item) := ⟨rfl, rfl, rfl, by decide +kernel, rfl, by decide +kernel, by decide +kernel⟩
abbrev s_name_at : Stmt := topS 33
abbrev n_name_at : List Str := ["text", "start", "many"]
abbrev p_name_at : List Str := ["text", "start"]
theorem sc_name_at : FnScope n_name_at p_name_at (defScope s_name_at) := ⟨rfl, rfl, rfl, by decide +kernel, rfl, by decide +kernel, by decide +kernel⟩
abbrev s_read_sign : Stmt := topS 34
abbrev n_read_sign : List Str := ["text", "at"]
abbrev p_read_sign : List Str := ["text", "at"]
theorem sc_read_sign : FnScope n_read_sign p_read_sign (defScope s_read_sign) := ⟨rfl, rfl, rfl, by decide +kernel, rfl, by decide +kernel, by decide +kernel⟩
abbrev s_check_sign : Stmt := topS 35
abbrev n_check_sign : List Str := ["text", "at", "sign"]
abbrev p_check_sign : List Str := ["text", "at", "sign"]
theorem sc_check_sign : FnScope n_check_sign p_check_sign (defScope s_check_sign) := ⟨rfl, rfl, rfl, by decide +kernel, rfl, by decide +kernel, by decide +kernel⟩
abbrev s_grown : Stmt := topS 36
abbrev n_grown : List Str := ["tree", "sign", "trees", "inner"]
abbrev p_grown : List Str := ["tree"]
theorem sc_grown : FnScope n_grown p_grown (defScope s_grown) := ⟨rfl, rfl, rfl, by decide +kernel, rfl, by decide +kernel, by decide +kernel⟩
abbrev s_law_bag : Stmt := topS 38
abbrev n_law_bag : List Str := ["_law_script", "_law_mixed", "_law_piece"]
abbrev p_law_bag : List Str := ["_law_script"]
theorem sc_law_bag : FnScope n_law_bag p_law_bag (defScope s_law_bag) := ⟨rfl, rfl, rfl, by decide +kernel, rfl, by decide +kernel, by decide +kernel⟩
abbrev s_law_draw : Stmt := topS 39
abbrev n_law_draw : List Str := ["_law_bag_here", "_law_sides", "_law_piece", "_law_digit", "_law_state"]
abbrev p_law_draw : List Str := ["_law_bag_here", "_law_sides"]
theorem sc_law_draw : FnScope n_law_draw p_law_draw (defScope s_law_draw) := ⟨rfl, rfl, rfl, by decide +kernel, rfl, by decide +kernel, by decide +kernel⟩
abbrev s_law_of : Stmt := topS 40
abbrev n_law_of : List Str := ["_law_bag_here", "_law_things"]
abbrev p_law_of : List Str := ["_law_bag_here", "_law_things"]
theorem sc_law_of : FnScope n_law_of p_law_of (defScope s_law_of) := ⟨rfl, rfl, rfl, by decide +kernel, rfl, by decide +kernel, by decide +kernel⟩
abbrev s_law_same : Stmt := topS 41
abbrev n_law_same : List Str := ["_law_found", "_law_due", "_law_mark", "_law_x", "_law_y"]
abbrev p_law_same : List Str := ["_law_found", "_law_due"]
theorem sc_law_same : FnScope n_law_same p_law_same (defScope s_law_same) := ⟨rfl, rfl, rfl, by decide +kernel, rfl, by decide +kernel, by decide +kernel⟩
abbrev s_law_try : Stmt := topS 42
abbrev n_law_try : List Str := ["_law_ask", "e"]
abbrev p_law_try : List Str := ["_law_ask"]
theorem sc_law_try : FnScope n_law_try p_law_try (defScope s_law_try) := ⟨rfl, rfl, rfl, by decide +kernel, rfl, by decide +kernel, by decide +kernel⟩
abbrev s_law_title : Stmt := topS 43
abbrev n_law_title : List Str := ["_law_bag_here", "_law_taken", "_law_title_here", "_law_k", "_law_sign"]
abbrev p_law_title : List Str := ["_law_bag_here", "_law_taken"]
theorem sc_law_title : FnScope n_law_title p_law_title (defScope s_law_title) := ⟨rfl, rfl, rfl, by decide +kernel, rfl, by decide +kernel, by decide +kernel⟩
abbrev s_law_titles : Stmt := topS 44
abbrev n_law_titles : List Str := ["_law_bag_here", "_law_size_here", "_law_found", "_law_k", "_law_stem", "_law_spot", "_law_begun"]
abbrev p_law_titles : List Str := ["_law_bag_here", "_law_size_here"]
theorem sc_law_titles : FnScope n_law_titles p_law_titles (defScope s_law_titles) := ⟨rfl, rfl, rfl, by decide +kernel, rfl, by decide +kernel, by decide +kernel⟩
abbrev s_law_words : Stmt := topS 45
abbrev n_law_words : List Str := ["_law_node", "_law_mark", "_law_x"]
abbrev p_law_words : List Str := ["_law_node"]
theorem sc_law_words : FnScope n_law_words p_law_words (defScope s_law_words) := ⟨rfl, rfl, rfl, by decide +kernel, rfl, by decide +kernel, by decide +kernel⟩
abbrev s_law_size : Stmt := topS 46
abbrev n_law_size : List Str := ["_law_node", "_law_x"]
abbrev p_law_size : List Str := ["_law_node"]
theorem sc_law_size : FnScope n_law_size p_law_size (defScope s_law_size) := ⟨rfl, rfl, rfl, by decide +kernel, rfl, by decide +kernel, by decide +kernel⟩
abbrev s_law_depth : Stmt := topS 47
abbrev n_law_depth : List Str := ["_law_node", "_law_x"]
abbrev p_law_depth : List Str := ["_law_node"]
theorem sc_law_depth : FnScope n_law_depth p_law_depth (defScope s_law_depth) := ⟨rfl, rfl, rfl, by decide +kernel, rfl, by decide +kernel, by decide +kernel⟩
abbrev s_law_leaves : Stmt := topS 48
abbrev n_law_leaves : List Str := ["_law_node", "_law_found", "_law_x"]
abbrev p_law_leaves : List Str := ["_law_node"]
theorem sc_law_leaves : FnScope n_law_leaves p_law_leaves (defScope s_law_leaves) := ⟨rfl, rfl, rfl, by decide +kernel, rfl, by decide +kernel, by decide +kernel⟩
abbrev s_law_join : Stmt := topS 49
abbrev n_law_join : List Str := ["_law_kind_here", "_law_nodes", "_law_flat", "_law_found", "_law_x"]
abbrev p_law_join : List Str := ["_law_kind_here", "_law_nodes"]
theorem sc_law_join : FnScope n_law_join p_law_join (defScope s_law_join) := ⟨rfl, rfl, rfl, by decide +kernel, rfl, by decide +kernel, by decide +kernel⟩
abbrev s_law_checked : Stmt := topS 50
abbrev n_law_checked : List Str := ["_law_kind_here", "_law_nodes", "_law_node"]
abbrev p_law_checked : List Str := ["_law_kind_here", "_law_nodes"]
theorem sc_law_checked : FnScope n_law_checked p_law_checked (defScope s_law_checked) := ⟨rfl, rfl, rfl, by decide +kernel, rfl, by decide +kernel, by decide +kernel⟩
abbrev s_law_circle : Stmt := topS 51
abbrev n_law_circle : List Str := ["_law_node", "_law_found", "_law_x"]
abbrev p_law_circle : List Str := ["_law_node"]
theorem sc_law_circle : FnScope n_law_circle p_law_circle (defScope s_law_circle) := ⟨rfl, rfl, rfl, by decide +kernel, rfl, by decide +kernel, by decide +kernel⟩
abbrev s_law_told_of : Stmt := topS 52
abbrev n_law_told_of : List Str := ["_law_c", "_law_x"]
abbrev p_law_told_of : List Str := ["_law_c"]
theorem sc_law_told_of : FnScope n_law_told_of p_law_told_of (defScope s_law_told_of) := ⟨rfl, rfl, rfl, by decide +kernel, rfl, by decide +kernel, by decide +kernel⟩
abbrev s_law_due_of : Stmt := topS 53
abbrev n_law_due_of : List Str := ["_law_node", "_law_words_here", "_law_small", "_law_due", "_law_nodes", "_law_x"]
abbrev p_law_due_of : List Str := ["_law_node"]
theorem sc_law_due_of : FnScope n_law_due_of p_law_due_of (defScope s_law_due_of) := ⟨rfl, rfl, rfl, by decide +kernel, rfl, by decide +kernel, by decide +kernel⟩
abbrev s_law_as : Stmt := topS 54
abbrev n_law_as : List Str := ["_law_found", "_law_due"]
abbrev p_law_as : List Str := ["_law_found", "_law_due"]
theorem sc_law_as : FnScope n_law_as p_law_as (defScope s_law_as) := ⟨rfl, rfl, rfl, by decide +kernel, rfl, by decide +kernel, by decide +kernel⟩
abbrev s_law_odd : Stmt := topS 55
abbrev n_law_odd : List Str := ["_law_bag_here", "_law_more"]
abbrev p_law_odd : List Str := ["_law_bag_here", "_law_more"]
theorem sc_law_odd : FnScope n_law_odd p_law_odd (defScope s_law_odd) := ⟨rfl, rfl, rfl, by decide +kernel, rfl, by decide +kernel, by decide +kernel⟩
abbrev s_law_raw : Stmt := topS 56
abbrev n_law_raw : List Str := ["_law_bag_here", "_law_titles_here", "_law_deep", "_law_turn", "_law_nodes", "_law_k"]
abbrev p_law_raw : List Str := ["_law_bag_here", "_law_titles_here", "_law_deep"]
theorem sc_law_raw : FnScope n_law_raw p_law_raw (defScope s_law_raw) := ⟨rfl, rfl, rfl, by decide +kernel, rfl, by decide +kernel, by decide +kernel⟩
abbrev s_law_loose : Stmt := topS 57
abbrev n_law_loose : List Str := ["_law_bag_here", "_law_raw_here", "_law_pieces", "_law_x", "_law_wide"]
abbrev p_law_loose : List Str := ["_law_bag_here", "_law_raw_here"]
theorem sc_law_loose : FnScope n_law_loose p_law_loose (defScope s_law_loose) := ⟨rfl, rfl, rfl, by decide +kernel, rfl, by decide +kernel, by decide +kernel⟩
abbrev s_law_scan : Stmt := topS 58
abbrev n_law_scan : List Str := ["_law_words_here", "_law_marks", "_law_state", "_law_letters", "_law_k", "_law_sign", "_law_going"]
abbrev p_law_scan : List Str := ["_law_words_here"]
theorem sc_law_scan : FnScope n_law_scan p_law_scan (defScope s_law_scan) := ⟨rfl, rfl, rfl, by decide +kernel, rfl, by decide +kernel, by decide +kernel⟩
abbrev s_law_read_good : Stmt := topS 59
abbrev n_law_read_good : List Str := ["_law_words_here", "_law_pieces", "_law_mark", "_law_here", "_law_begun", "_law_k", "_law_nodes", "_law_piece", "_law_told"]
abbrev p_law_read_good : List Str := ["_law_words_here"]
theorem sc_law_read_good : FnScope n_law_read_good p_law_read_good (defScope s_law_read_good) := ⟨rfl, rfl, rfl, by decide +kernel, rfl, by decide +kernel, by decide +kernel⟩
abbrev s_law_read : Stmt := topS 60
abbrev n_law_read : List Str := ["_law_thing", "_law_spot", "_law_whole"]
abbrev p_law_read : List Str := ["_law_thing"]
theorem sc_law_read : FnScope n_law_read p_law_read (defScope s_law_read) := ⟨rfl, rfl, rfl, by decide +kernel, rfl, by decide +kernel, by decide +kernel⟩
abbrev s_law_bent : Stmt := topS 61
abbrev n_law_bent : List Str := ["_law_bag_here", "_law_words_here", "_law_other_words", "_law_turn", "_law_spot", "_law_sign"]
abbrev p_law_bent : List Str := ["_law_bag_here", "_law_words_here", "_law_other_words"]
theorem sc_law_bent : FnScope n_law_bent p_law_bent (defScope s_law_bent) := ⟨rfl, rfl, rfl, by decide +kernel, rfl, by decide +kernel, by decide +kernel⟩
abbrev s_law_any_so : Stmt := topS 62
abbrev n_law_any_so : List Str := ["_law_thing", "_law_due", "_law_sound"]
abbrev p_law_any_so : List Str := ["_law_thing"]
theorem sc_law_any_so : FnScope n_law_any_so p_law_any_so (defScope s_law_any_so) := ⟨rfl, rfl, rfl, by decide +kernel, rfl, by decide +kernel, by decide +kernel⟩
abbrev s_law_long_so : Stmt := topS 63
abbrev n_law_long_so : List Str := ["_law_bag_here", "_law_titles_here", "_law_x", "_law_y", "_law_turn", "_law_wide", "_law_words_here", "_law_k", "_law_letters", "_law_many_names", "_law_cut", "_law_lhs", "_law_rhs"]
abbrev p_law_long_so : List Str := ["_law_bag_here", "_law_titles_here"]
theorem sc_law_long_so : FnScope n_law_long_so p_law_long_so (defScope s_law_long_so) := ⟨rfl, rfl, rfl, by decide +kernel, rfl, by decide +kernel, by decide +kernel⟩
abbrev s_law : Stmt := topS 64
abbrev n_law : List Str := ["_law_script", "_law_bag_here", "_law_titles_here", "_law_texts", "_law_k", "_law_turn", "_law_words_here", "_law_thing"]
abbrev p_law : List Str := ["_law_script"]
theorem sc_law : FnScope n_law p_law (defScope s_law) := ⟨rfl, rfl, rfl, by decide +kernel, rfl, by decide +kernel, by decide +kernel⟩
structure Adr where
  no : Nat
  pp : Params
  KINDS : Addr
  Circle : Addr
  InvalidName : Addr
  InvalidNumber : Addr
  InvalidText : Addr
  InvalidCircle : Addr
  InvalidTie : Addr
  InvalidParting : Addr
  InvalidCase : Addr
  TooMany : Addr
  cdA : Addr
  tbA : Addr
structure Txt (K : PySem.W.Frag) (mg : Str → Option Value) (A : Adr) : Prop where
  n_isinstance : mg "isinstance" = none
  n_str : mg "str" = none
  n_len : mg "len" = none
  n_all : mg "all" = none
  n_list : mg "list" = none
  n_sum : mg "sum" = none
  n_max : mg "max" = none
  n_sorted : mg "sorted" = none
  n_set : mg "set" = none
  n_NotImplemented : mg "NotImplemented" = none
  n_range : mg "range" = none
  n_int : mg "int" = none
  n_abs : mg "abs" = none
  n_tuple : mg "tuple" = none
  n_zip : mg "zip" = none
  n_dict : mg "dict" = none
  n_bool : mg "bool" = none
  n_repr : mg "repr" = none
  n_ValueError : mg "ValueError" = none
  n_LookupError : mg "LookupError" = none
  m_LETTERS : ∃ t, mg "LETTERS" = some (.str "abcdefghijklmnopqrstuvwxyz" t)
  m_MOST_LETTERS : ∃ t, mg "MOST_LETTERS" = some (.int 6 t)
  m_MOST_DEPTH : ∃ t, mg "MOST_DEPTH" = some (.int 20 t)
  m_MOST_OPEN : ∃ t, mg "MOST_OPEN" = some (.int 20 t)
  m_KINDS : mg "KINDS" = some (.ref A.KINDS)
  d_KINDS : ∃ es n, K.lookup A.KINDS = some ⟨.type "dict", none, .dict es n, #[]⟩ ∧ PySem.W.KeysLit A.pp es.toList
  d_KINDS_0 : ∃ t, PySem.W.nsIn K A.KINDS "&" = some (some (.str "pool" t))
  d_KINDS_1 : ∃ t, PySem.W.nsIn K A.KINDS "|" = some (some (.str "common" t))
  m_Circle : mg "Circle" = some (.ref A.Circle)
  c_Circle : Cls K A.Circle
  y_Circle : ClsY K A.Circle
  s_Circle : PySem.W.selfFirst K A.Circle = true
  a_Circle_kind : NoAttr K A.Circle "kind"
  a_Circle_name : NoAttr K A.Circle "name"
  a_Circle_parts : NoAttr K A.Circle "_parts"
  a_Circle_size : NoAttr K A.Circle "size"
  a_Circle_depth : NoAttr K A.Circle "depth"
  a_Circle_text : NoAttr K A.Circle "_text"
  k_Circle_LIMIT : ∃ t, ClX.CRead K A.Circle (.type "type") ∧ ClX.CVal K A.Circle (.type "type") "LIMIT" (.int 60) (.int 60 t)
  q_Circle_LIMIT : ∃ t, Con K A.Circle "LIMIT" (.int 60) (.int 60 t)
  i_Circle : InitAt K A.Circle "Circle.__init__" s_Circle___init p_Circle___init
  t_Circle_parts : MethAt K A.Circle "parts" "Circle.parts" s_Circle_parts p_Circle_parts
  t_Circle_eyes : MethAt K A.Circle "eyes" "Circle.eyes" s_Circle_eyes p_Circle_eyes
  t_Circle___str : MethAt K A.Circle "__str__" "Circle.__str__" s_Circle___str p_Circle___str
  t_Circle___repr : MethAt K A.Circle "__repr__" "Circle.__repr__" s_Circle___repr p_Circle___repr
  t_Circle___eq : MethAt K A.Circle "__eq__" "Circle.__eq__" s_Circle___eq p_Circle___eq
  t_Circle___and : MethAt K A.Circle "__and__" "Circle.__and__" s_Circle___and p_Circle___and
  t_Circle___or : MethAt K A.Circle "__or__" "Circle.__or__" s_Circle___or p_Circle___or
  e_InvalidName : ErrAt K mg "InvalidName" A.InvalidName "InvalidName.__init__" s_InvalidName___init p_InvalidName___init
  a_InvalidName_value : PySem.W.findIn K (.ref A.InvalidName) "value" = some none
  e_InvalidNumber : ErrAt K mg "InvalidNumber" A.InvalidNumber "InvalidNumber.__init__" s_InvalidNumber___init p_InvalidNumber___init
  a_InvalidNumber_value : PySem.W.findIn K (.ref A.InvalidNumber) "value" = some none
  e_InvalidText : ErrAt K mg "InvalidText" A.InvalidText "InvalidText.__init__" s_InvalidText___init p_InvalidText___init
  a_InvalidText_at : PySem.W.findIn K (.ref A.InvalidText) "at" = some none
  e_InvalidCircle : ErrAt K mg "InvalidCircle" A.InvalidCircle "InvalidCircle.__init__" s_InvalidCircle___init p_InvalidCircle___init
  a_InvalidCircle_at : PySem.W.findIn K (.ref A.InvalidCircle) "at" = some none
  e_InvalidTie : ErrAt K mg "InvalidTie" A.InvalidTie "InvalidTie.__init__" s_InvalidTie___init p_InvalidTie___init
  a_InvalidTie_at : PySem.W.findIn K (.ref A.InvalidTie) "at" = some none
  e_InvalidParting : ErrAt K mg "InvalidParting" A.InvalidParting "InvalidParting.__init__" s_InvalidParting___init p_InvalidParting___init
  a_InvalidParting_value : PySem.W.findIn K (.ref A.InvalidParting) "value" = some none
  e_InvalidCase : ErrAt K mg "InvalidCase" A.InvalidCase "InvalidCase.__init__" s_InvalidCase___init p_InvalidCase___init
  a_InvalidCase_value : PySem.W.findIn K (.ref A.InvalidCase) "value" = some none
  e_TooMany : ErrAt K mg "TooMany" A.TooMany "TooMany.__init__" s_TooMany___init p_TooMany___init
  a_TooMany_what : PySem.W.findIn K (.ref A.TooMany) "what" = some none
  a_TooMany_most : PySem.W.findIn K (.ref A.TooMany) "most" = some none
  x_InvalidName_InvalidName : PySem.W.exmOne K (.ref A.InvalidName) (.ref A.InvalidName) = some true
  x_InvalidCircle_InvalidName : PySem.W.exmOne K (.ref A.InvalidCircle) (.ref A.InvalidName) = some false
  x_InvalidCircle_InvalidNumber : PySem.W.exmOne K (.ref A.InvalidCircle) (.ref A.InvalidNumber) = some false
  x_InvalidCircle_InvalidText : PySem.W.exmOne K (.ref A.InvalidCircle) (.ref A.InvalidText) = some false
  x_InvalidCircle_InvalidCircle : PySem.W.exmOne K (.ref A.InvalidCircle) (.ref A.InvalidCircle) = some true
  x_InvalidNumber_InvalidName : PySem.W.exmOne K (.ref A.InvalidNumber) (.ref A.InvalidName) = some false
  x_InvalidNumber_InvalidNumber : PySem.W.exmOne K (.ref A.InvalidNumber) (.ref A.InvalidNumber) = some true
  x_InvalidTie_InvalidName : PySem.W.exmOne K (.ref A.InvalidTie) (.ref A.InvalidName) = some false
  x_InvalidTie_InvalidNumber : PySem.W.exmOne K (.ref A.InvalidTie) (.ref A.InvalidNumber) = some false
  x_InvalidTie_InvalidText : PySem.W.exmOne K (.ref A.InvalidTie) (.ref A.InvalidText) = some false
  x_InvalidTie_InvalidCircle : PySem.W.exmOne K (.ref A.InvalidTie) (.ref A.InvalidCircle) = some false
  x_InvalidTie_InvalidTie : PySem.W.exmOne K (.ref A.InvalidTie) (.ref A.InvalidTie) = some true
  x_InvalidParting_InvalidName : PySem.W.exmOne K (.ref A.InvalidParting) (.ref A.InvalidName) = some false
  x_InvalidParting_InvalidNumber : PySem.W.exmOne K (.ref A.InvalidParting) (.ref A.InvalidNumber) = some false
  x_InvalidParting_InvalidText : PySem.W.exmOne K (.ref A.InvalidParting) (.ref A.InvalidText) = some false
  x_InvalidParting_InvalidCircle : PySem.W.exmOne K (.ref A.InvalidParting) (.ref A.InvalidCircle) = some false
  x_InvalidParting_InvalidTie : PySem.W.exmOne K (.ref A.InvalidParting) (.ref A.InvalidTie) = some false
  x_InvalidParting_InvalidParting : PySem.W.exmOne K (.ref A.InvalidParting) (.ref A.InvalidParting) = some true
  x_TooMany_InvalidName : PySem.W.exmOne K (.ref A.TooMany) (.ref A.InvalidName) = some false
  x_TooMany_InvalidNumber : PySem.W.exmOne K (.ref A.TooMany) (.ref A.InvalidNumber) = some false
  x_TooMany_InvalidText : PySem.W.exmOne K (.ref A.TooMany) (.ref A.InvalidText) = some false
  x_TooMany_InvalidCircle : PySem.W.exmOne K (.ref A.TooMany) (.ref A.InvalidCircle) = some false
  x_TooMany_InvalidTie : PySem.W.exmOne K (.ref A.TooMany) (.ref A.InvalidTie) = some false
  x_TooMany_InvalidParting : PySem.W.exmOne K (.ref A.TooMany) (.ref A.InvalidParting) = some false
  x_TooMany_InvalidCase : PySem.W.exmOne K (.ref A.TooMany) (.ref A.InvalidCase) = some false
  x_TooMany_TooMany : PySem.W.exmOne K (.ref A.TooMany) (.ref A.TooMany) = some true
  x_InvalidText_InvalidName : PySem.W.exmOne K (.ref A.InvalidText) (.ref A.InvalidName) = some false
  x_InvalidText_InvalidNumber : PySem.W.exmOne K (.ref A.InvalidText) (.ref A.InvalidNumber) = some false
  x_InvalidText_InvalidText : PySem.W.exmOne K (.ref A.InvalidText) (.ref A.InvalidText) = some true
  x_InvalidText_TooMany : PySem.W.exmOne K (.ref A.InvalidText) (.ref A.TooMany) = some false
  kc_NoneType : PySem.W.kitOne K (.type "NoneType") (.ref A.Circle) = some false
  kc_bool : PySem.W.kitOne K (.type "bool") (.ref A.Circle) = some false
  kc_int : PySem.W.kitOne K (.type "int") (.ref A.Circle) = some false
  kc_list : PySem.W.kitOne K (.type "list") (.ref A.Circle) = some false
  kc_str : PySem.W.kitOne K (.type "str") (.ref A.Circle) = some false
  kc_tuple : PySem.W.kitOne K (.type "tuple") (.ref A.Circle) = some false
  nb_Circle : PySem.W.findIn K (.ref A.Circle) "__bool__" = some none
  nf_list : PySem.W.notFirst K A.Circle (.type "list") = true
  nf_tuple : PySem.W.notFirst K A.Circle (.type "tuple") = true
  nf_str : PySem.W.notFirst K A.Circle (.type "str") = true
  nl_Circle : PySem.W.findIn K (.ref A.Circle) "__len__" = some none
  f_is_name : FnAt K mg "is_name" s_is_name p_is_name
  f_without_repeats : FnAt K mg "without_repeats" s_without_repeats p_without_repeats
  f_flattened : FnAt K mg "flattened" s_flattened p_flattened
  f_size_of : FnAt K mg "size_of" s_size_of p_size_of
  f_depth_over : FnAt K mg "depth_over" s_depth_over p_depth_over
  f_inner_text : FnAt K mg "inner_text" s_inner_text p_inner_text
  f_text_of : FnAt K mg "text_of" s_text_of p_text_of
  f_eye : FnAt K mg "eye" s_eye p_eye
  f_built : FnAt K mg "built" s_built p_built
  f_read_circle : FnAt K mg "read_circle" s_read_circle p_read_circle
  f_is_circle_text : FnAt K mg "is_circle_text" s_is_circle_text p_is_circle_text
  f_read_row : FnAt K mg "read_row" s_read_row p_read_row
  f_read_item : FnAt K mg "read_item" s_read_item p_read_item
  f_name_at : FnAt K mg "name_at" s_name_at p_name_at
  f_read_sign : FnAt K mg "read_sign" s_read_sign p_read_sign
  f_check_sign : FnAt K mg "check_sign" s_check_sign p_check_sign
  f_grown : FnAt K mg "grown" s_grown p_grown
  f_law_bag : FnAt K mg "_law_bag" s_law_bag p_law_bag
  f_law_draw : FnAt K mg "_law_draw" s_law_draw p_law_draw
  f_law_of : FnAt K mg "_law_of" s_law_of p_law_of
  f_law_same : FnAt K mg "_law_same" s_law_same p_law_same
  f_law_try : FnAt K mg "_law_try" s_law_try p_law_try
  f_law_title : FnAt K mg "_law_title" s_law_title p_law_title
  f_law_titles : FnAt K mg "_law_titles" s_law_titles p_law_titles
  f_law_words : FnAt K mg "_law_words" s_law_words p_law_words
  f_law_size : FnAt K mg "_law_size" s_law_size p_law_size
  f_law_depth : FnAt K mg "_law_depth" s_law_depth p_law_depth
  f_law_leaves : FnAt K mg "_law_leaves" s_law_leaves p_law_leaves
  f_law_join : FnAt K mg "_law_join" s_law_join p_law_join
  f_law_checked : FnAt K mg "_law_checked" s_law_checked p_law_checked
  f_law_circle : FnAt K mg "_law_circle" s_law_circle p_law_circle
  f_law_told_of : FnAt K mg "_law_told_of" s_law_told_of p_law_told_of
  f_law_due_of : FnAt K mg "_law_due_of" s_law_due_of p_law_due_of
  f_law_as : FnAt K mg "_law_as" s_law_as p_law_as
  f_law_odd : FnAt K mg "_law_odd" s_law_odd p_law_odd
  f_law_raw : FnAt K mg "_law_raw" s_law_raw p_law_raw
  f_law_loose : FnAt K mg "_law_loose" s_law_loose p_law_loose
  f_law_scan : FnAt K mg "_law_scan" s_law_scan p_law_scan
  f_law_read_good : FnAt K mg "_law_read_good" s_law_read_good p_law_read_good
  f_law_read : FnAt K mg "_law_read" s_law_read p_law_read
  f_law_bent : FnAt K mg "_law_bent" s_law_bent p_law_bent
  f_law_any_so : FnAtC K mg "_law_any_so" s_law_any_so p_law_any_so A.cdA
  f_law_long_so : FnAt K mg "_law_long_so" s_law_long_so p_law_long_so
  f_law : FnAt K mg "law" s_law p_law
def TT (A : Adr) : List (Addr × Str) := [(A.tbA, (envOfC "_law_any_so" (defScope s_law_any_so) 0 0 .none).qual ++ "<lambda>")]
structure Tbs (K : PySem.W.Frag) (h : Heap) (A : Adr) : Prop where
  tA : h.get? A.tbA = some { cls := .none, data := .fields #[] }
  nA : K.lookup A.tbA = none
  cA : PySem.W.CodeHd h A.cdA A.tbA
end Eyes

set_option Elab.async false
set_option linter.all false
set_option maxRecDepth 100000
set_option maxHeartbeats 4000000
namespace Eyes
open PySem PySem.Spec PyProof.Rows L2 Evl
local macro_rules | `(tactic| walk_at "v") => `(tactic| refine ⟨_, rfl, ?_⟩)
local macro_rules | `(tactic| walk_at "rd") => `(tactic| first
  | refine ⟨_, rfl, ?_⟩
  | refine ⟨_, _, rfl, rfl, .inr ⟨by decide, by decide⟩, ?_⟩
  | refine ⟨_, _, rfl, rfl, .inl ⟨by decide, by decide⟩, ?_⟩
  | refine ⟨_, _, rfl, rfl, (show (0 : Int) < _ by decide), ?_⟩
  | refine ⟨_, _, rfl, rfl, (show (0 : Int) < _ ∧ _ < (1073741824 : Int) by decide), ?_⟩
  | refine ⟨_, _, rfl, rfl, ?_⟩
  | refine .inl ⟨_, rfl, ?_⟩)
/-! ### the bag of drawn numbers -/
structure BagS (b c : Addr) (ns : List Int) (i r m n : Int) (G H : Hp) : Prop where
  nb : G b = none
  nc : G c = none
  ex : Ex G H
  at_ : H b = some (.lst [.ref c, .int i, .int r, .int m, .int n])
  cells : H c = some (.lst (ns.map V.int))
  ne : c ≠ b
  i0 : 0 ≤ i
  r0 : 0 ≤ r
  m0 : 0 ≤ m
  m1 : m < 2147483648
theorem BagS.set {b c : Addr} {ns : List Int} {i r m n i' r' m' n' : Int} {G H : Hp} (B : BagS b c ns i r m n G H) (h1 : 0 ≤ i') (h2 : 0 ≤ r') (h3 : 0 ≤ m') (h4 : m' < 2147483648) :
    BagS b c ns i' r' m' n' G (upd H b (.lst [.ref c, .int i', .int r', .int m', .int n'])) :=
  ⟨B.nb, B.nc, B.ex.mut B.nb, upd_same, (upd_ne B.ne).trans B.cells, B.ne, h1, h2, h3, h4⟩
def At (b : Addr) (G H : Hp) : Prop := ∃ (c : Addr) (ns : List Int) (i r m n : Int), BagS b c ns i r m n G H
theorem At.nb {b : Addr} {G H : Hp} (h : At b G H) : G b = none := by
  obtain ⟨c, ns, i, r, m, n, B⟩ := h
  exact B.nb
theorem At.ex {b : Addr} {G H : Hp} (h : At b G H) : Ex G H := by
  obtain ⟨c, ns, i, r, m, n, B⟩ := h
  exact B.ex
theorem At.mono {b : Addr} {G H H' : Hp} (h : At b G H) (e : Ex H H') : At b G H' := by
  obtain ⟨c, ns, i, r, m, n, B⟩ := h
  exact ⟨c, ns, i, r, m, n, B.nb, B.nc, B.ex.trans e, e _ _ B.at_, e _ _ B.cells, B.ne, B.i0, B.r0, B.m0, B.m1⟩
theorem At.free {b : Addr} {G H : Hp} (h : At b G H) {p : Addr} (hp : H p = none) : p ≠ b := by
  obtain ⟨c, ns, i, r, m, n, B⟩ := h
  intro e
  rw [e, B.at_] at hp
  cases hp
theorem At.new {b : Addr} {G H : Hp} (h : At b G H) {p : Addr} {o : HO} (hp : H p = none) : At b (upd G p o) (upd H p o) := by
  have hf := h.free hp
  have hc : ∀ c ns i r m n, BagS b c ns i r m n G H → p ≠ c := fun c ns i r m n B e => by
    rw [e, B.cells] at hp
    cases hp
  obtain ⟨c, ns, i, r, m, n, B0⟩ := h
  have B : BagS b c ns i r m n G (upd H p o) := ⟨B0.nb, B0.nc, B0.ex.trans (Ex.new hp), Ex.new hp _ _ B0.at_, Ex.new hp _ _ B0.cells, B0.ne, B0.i0, B0.r0, B0.m0, B0.m1⟩
  refine ⟨c, ns, i, r, m, n, (upd_ne hf.symm).trans B.nb, (upd_ne (hc _ _ _ _ _ _ B0).symm).trans B.nc, fun a u e => ?_, B.at_, B.cells, B.ne, B.i0, B.r0, B.m0, B.m1⟩
  by_cases ha : a = p
  · subst ha
    rw [upd_same] at e ⊢
    exact e
  · rw [upd_ne ha] at e
    exact B.ex a u e
theorem At.weak {b : Addr} {G G1 H : Hp} (h : At b G1 H) (e : Ex G G1) : At b G H := by
  obtain ⟨c, ns, i, r, m, n, B⟩ := h
  exact ⟨c, ns, i, r, m, n, fresh_back e B.nb, fresh_back e B.nc, e.trans B.ex, B.at_, B.cells, B.ne, B.i0, B.r0, B.m0, B.m1⟩
theorem At.nh {b : Addr} {G H : Hp} (h : At b G H) {p : Addr} (hp : H p = none) : G p = none := fresh_back h.ex hp
theorem At.put {b : Addr} {G H : Hp} {p : Addr} {o o' : HO} (h : At b (upd G p o) H) : At b (upd G p o') (upd H p o') := by
  obtain ⟨c, ns, i, r, m, n, B⟩ := h
  have hb : b ≠ p := fun e => by
    have := B.nb
    rw [e, upd_same] at this
    cases this
  have hc : c ≠ p := fun e => by
    have := B.nc
    rw [e, upd_same] at this
    cases this
  refine ⟨c, ns, i, r, m, n, ?_, ?_, fun a u e => ?_, (upd_ne hb).trans B.at_, (upd_ne hc).trans B.cells, B.ne, B.i0, B.r0, B.m0, B.m1⟩
  · have := B.nb
    rw [upd_ne hb] at this ⊢
    exact this
  · have := B.nc
    rw [upd_ne hc] at this ⊢
    exact this
  · by_cases ha : a = p
    · subst ha
      rw [upd_same] at e ⊢
      exact e
    · rw [upd_ne ha] at e ⊢
      exact B.ex a u (by rw [upd_ne ha]; exact e)
theorem cut_to (xs : List V) (k : Nat) : cutV xs none (some (k : Int)) = xs.take k := by
  unfold cutV
  rw [HT.sIx_none, HT.sIx_nat, List.drop_zero, Nat.sub_zero]
  rcases Nat.le_total k xs.length with h | h
  · rw [Nat.min_eq_left h]
  · rw [Nat.min_eq_right h, List.take_of_length_le h, List.take_of_length_le (Nat.le_refl _)]
theorem at_of' {α : Type} {xs : List α} {z : Int} {v : α} (e : 0 ≤ z) (h : xs[z.toNat]? = some v) : atI xs z = some v := by
  have e2 : z = (z.toNat : Int) := by omega
  rw [e2]
  exact atI_nat h
def spBag (K : PySem.W.Frag) : Sp := fun vs H Q _ => ∃ (a : Addr) (ns : List Int), vs = [.ref a] ∧ SqL K H a (ns.map V.int) ∧ ∀ b H', H b = none → At b H H' → Q (.ref b) H'
def spDraw : Sp := fun vs H Q _ => ∃ (b : Addr) (z : Int) (G : Hp), vs = [.ref b, .int z] ∧ At b G H ∧ 0 < z ∧ z < 1073741824 ∧ ∀ d H', 0 ≤ d → d < z → At b G H' → Q (.int d) H'
section
variable {P : Program} {w : World} {K : PySem.W.Frag} {mg : Str → Option Value} {base : Heap}
theorem ok_law_bag {AA : Adr} (T : Txt K mg AA) : Pr P w K mg base "_law_bag" s_law_bag p_law_bag 1 (spBag K) := by
  refine pr_mk T.f_law_bag sc_law_bag (fun vs H Q E h => ?_) (fun f cdv A outer s H vs Q E hr h => ?_)
  · obtain ⟨a, ns, rfl, _⟩ := h
    rfl
  · obtain ⟨a, ns, rfl, hS, q⟩ := h
    refine ⟨_, (pss_cons (ps_set (i := 1) sc_law_bag.nd rfl (.inl rfl) pe_int)
      (pss_cons (ps_for PassesOwn.never rfl (pi_list (pe_slice sl_list (pv 0) po_none (po_some pe_int))) (pg_name (i := 2) sc_law_bag.nd rfl (.inl rfl))
      (pss_one (ps_set (i := 1) sc_law_bag.nd rfl (.inl rfl) (pe_op op_mod (pe_callTy call_int1 (by rfl) T.n_int PyProof.Rows.boot_int (pa_cons (pe_op op_add (pe_op op_add (pe_op op_mul (pv 1) pe_int) (pe_op op_mul (pe_op op_mod (pe_callTy call_int1 (by rfl) T.n_int PyProof.Rows.boot_int (pa_cons (pv 2) pa_nil)) pe_int) pe_int)) pe_int) pa_nil)) pe_int))))
      (pss_one (ps_ret (pe_lst (pa_cons (pe_callTy call_list_of (by rfl) T.n_list PyProof.Rows.boot_list (pa_cons (pe_slice sl_list (pv 0) po_none (po_some pe_int)) pa_nil)) (pa_cons pe_int (pa_cons pe_int (pa_cons (pv 1) (pa_cons pe_int pa_nil)))))))))), ?_⟩
    -- mixed = 43001
    -- for piece in script[:63]
    refine ⟨_, rfl, 63, rfl, a, _, rfl, hS, fun p np => ?_⟩
    have hc : cutV (ns.map V.int) none (some 63) = (ns.take 63).map V.int := (cut_to _ 63).trans List.map_take.symm
    rw [hc]
    have e1 : Ex H (upd H p (.lst ((ns.take 63).map V.int))) := Ex.new np
    refine ⟨p, rfl, ⟨_, sq_of upd_same⟩, for_list (xs := (ns.take 63).map V.int) (fun _ σ H' => ∃ (m : Int) (y : Option V), σ = [some (.ref a), some (.int m), y] ∧ 0 ≤ m ∧ m < 2147483587 ∧ Ex (upd H p (.lst ((ns.take 63).map V.int))) H') ⟨43001, none, rfl, by omega, by omega, Ex.refl _⟩ (fun i σ H' _ hp => ?_) (fun i x σ H' hx hp => ?_) (fun σ H' hp => ?_)⟩
    · obtain ⟨m, y, rfl, _, _, e2⟩ := hp
      exact sq_of (e2 _ _ upd_same)
    · obtain ⟨m, y, rfl, h0, h1, e2⟩ := hp
      rw [List.getElem?_map] at hx
      obtain ⟨k, hk, rfl⟩ := Option.map_eq_some_iff.mp hx
      -- the sum
      repeat walk_at "rd"
      exact ⟨_, _, rfl, Int.emod_nonneg _ (by decide), Int.emod_lt_of_pos _ (by decide), e2⟩
    · obtain ⟨m, y, rfl, h0, h1, e2⟩ := hp
      -- return [list(script[:63]), 0, 0, mixed, 0]
      have hS1 : SqL K H' a (ns.map V.int) := ex_l (e1.trans e2) hS
      refine ⟨_, rfl, 63, rfl, a, _, rfl, hS1, fun p2 np2 => ?_⟩
      rw [hc]
      refine ⟨p2, _, rfl, .inl (sq_of upd_same), fun p3 np3 => ?_⟩
      refine ⟨_, rfl, by show 5 ≤ sizeLine; decide, fun b nb => ?_⟩
      have ex : Ex H _ := (((e1.trans e2).trans (Ex.new np2)).trans (Ex.new np3)).trans (Ex.new (o := HO.lst [.ref p3, .int 0, .int 0, .int m, .int 0]) nb)
      refine q b _ (fresh_back (((e1.trans e2).trans (Ex.new np2)).trans (Ex.new np3)) nb) ⟨p3, ns.take 63, 0, 0, m, 0, fresh_back (((e1.trans e2).trans (Ex.new np2)).trans (Ex.new np3)) nb, fresh_back ((e1.trans e2).trans (Ex.new np2)) np3, ex, upd_same, ?_, ?_, by omega, by omega, by omega, by omega⟩
      · have hb : p3 ≠ b := ne_of_none upd_same nb
        rw [upd_ne hb, upd_same]
      · exact ne_of_none upd_same nb
theorem ok_law_draw {AA : Adr} (T : Txt K mg AA) : Pr P w K mg base "_law_draw" s_law_draw p_law_draw 1 spDraw := by
  refine pr_mk T.f_law_draw sc_law_draw (fun vs H Q E h => ?_) (fun f cdv A outer s H vs Q E hr h => ?_)
  · obtain ⟨b, z, G, rfl, _⟩ := h
    rfl
  · obtain ⟨b, z, G, rfl, ⟨c, ns, i, r, m, n, B⟩, hz0, hz1, q⟩ := h
    refine ⟨_, (pss_cons (ps_asg (pe_op op_add (pe_ix (ix_listK (K := K) rfl) (pv 0) pe_int (fun _ _ => rfl)) pe_int) (pg_sub (pv 0) pe_int set_list))
      (Evl.pss_cut (ps_if (PW.pt (pw_and (pt_cmpR op_eq (pe_ix (ix_listK (K := K) rfl) (pv 0) pe_int (fun _ _ => rfl)) pe_int (nomark _)) (pw_and1 (pt_cmpR op_lt (pe_ix (ix_listK (K := K) rfl) (pv 0) pe_int (fun _ _ => rfl)) (pe_callB (call_len_seqK (K := K) rfl) (by rfl) T.n_len PySem.boot_len (pa_cons (pe_ix (ix_listK (K := K) rfl) (pv 0) pe_int (fun _ _ => rfl)) pa_nil)) (nomark _)))))
      (pss_cons (ps_set (i := 2) sc_law_draw.nd rfl (.inl rfl) (pe_callB call_abs (by rfl) T.n_abs PyProof.Rows.boot_abs (pa_cons (pe_callTy call_int1 (by rfl) T.n_int PyProof.Rows.boot_int (pa_cons (pe_ix (ix_listK (K := K) rfl) (pe_ix (ix_listK (K := K) rfl) (pv 0) pe_int (fun _ _ => rfl)) (pe_ix (ix_listK (K := K) rfl) (pv 0) pe_int (fun _ _ => rfl)) (fun _ _ => rfl)) pa_nil)) pa_nil)))
      (pss_cons (ps_asg (pe_op op_add (pe_ix (ix_listK (K := K) rfl) (pv 0) pe_int (fun _ _ => rfl)) pe_int) (pg_sub (pv 0) pe_int set_list))
      (pss_one (ps_if (pt_cmpR op_ge (pv 2) (pe_op op_pow pe_int pe_int) (nomark _))
      (pss_one (ps_asg (pv 2) (pg_sub (pv 0) pe_int set_list)))
      (pss_one (ps_asg (pe_op op_mod (pe_callTy call_int1 (by rfl) T.n_int PyProof.Rows.boot_int (pa_cons (pe_op op_add (pe_op op_add (pe_op op_mul (pe_ix (ix_listK (K := K) rfl) (pv 0) pe_int (fun _ _ => rfl)) pe_int) (pe_op op_mul (pe_op op_mod (pv 2) pe_int) pe_int)) pe_int) pa_nil)) pe_int) (pg_sub (pv 0) pe_int set_list)))))))
      pss_nil)
      (pss_cons (ps_if (pt_cmpR op_gt (pe_ix (ix_listK (K := K) rfl) (pv 0) pe_int (fun _ _ => rfl)) pe_int (nomark _))
      (pss_cons (ps_set (i := 3) sc_law_draw.nd rfl (.inl rfl) (pe_op op_mod (pe_callTy call_int1 (by rfl) T.n_int PyProof.Rows.boot_int (pa_cons (pe_ix (ix_listK (K := K) rfl) (pv 0) pe_int (fun _ _ => rfl)) pa_nil)) (pv 1)))
      (pss_cons (ps_asg (pe_op op_fdiv (pe_ix (ix_listK (K := K) rfl) (pv 0) pe_int (fun _ _ => rfl)) (pv 1)) (pg_sub (pv 0) pe_int set_list))
      (pss_one (ps_ret (pv 3)))))
      pss_nil)
      (pss_cons (ps_set (i := 4) sc_law_draw.nd rfl (.inl rfl) (pe_callTy call_int1 (by rfl) T.n_int PyProof.Rows.boot_int (pa_cons (pe_ix (ix_listK (K := K) rfl) (pv 0) pe_int (fun _ _ => rfl)) pa_nil)))
      (pss_cons (ps_asg (pe_op op_mod (pe_callTy call_int1 (by rfl) T.n_int PyProof.Rows.boot_int (pa_cons (pe_op op_add (pe_op op_add (pe_op op_add (pe_op op_mul (pe_op op_mul (pv 4) (pv 4)) pe_int) (pe_op op_mul (pv 4) pe_int)) (pe_op op_mul (pe_ix (ix_listK (K := K) rfl) (pv 0) pe_int (fun _ _ => rfl)) pe_int)) pe_int) pa_nil)) pe_int) (pg_sub (pv 0) pe_int set_list))
      (pss_one (ps_ret (pe_op op_mod (pe_callTy call_int1 (by rfl) T.n_int PyProof.Rows.boot_int (pa_cons (pe_op op_add (pe_op op_fdiv (pe_ix (ix_listK (K := K) rfl) (pv 0) pe_int (fun _ _ => rfl)) pe_int) (pe_op op_mul (pe_op op_mod (pe_callTy call_int1 (by rfl) T.n_int PyProof.Rows.boot_int (pa_cons (pe_ix (ix_listK (K := K) rfl) (pv 0) pe_int (fun _ _ => rfl)) pa_nil)) pe_int) pe_int)) pa_nil)) (pv 1))))))))), ?_⟩
    -- bag[4] = bag[4] + 1
    refine ⟨_, rfl, b, _, 4, _, rfl, rfl, sq_of B.at_, rfl, n, 1, rfl, rfl, _, rfl, b, _, 4, 4, rfl, rfl, B.at_, rfl, ?_⟩
    have B1 := B.set (n' := n + 1) B.i0 B.r0 B.m0 B.m1
    generalize hH1 : upd H b _ = H1
    rw [show ([V.ref c, .int i, .int r, .int m, .int n].set 4 (.int (n + 1))) = [V.ref c, .int i, .int r, .int m, .int (n + 1)] from rfl] at hH1
    rw [hH1] at B1
    clear hH1 B
    generalize n + 1 = n at B1
    -- the first if: Mid
    refine ⟨fun σ H' => ∃ (y2 y3 y4 : Option V), σ = [some (.ref b), some (.int z), y2, y3, y4] ∧ At b G H', ?_, fun σ H' hM => ?_⟩
    · refine ⟨_, rfl, b, _, 2, _, rfl, rfl, sq_of B1.at_, rfl, rfl, _, rfl, ite2 (fun hr0 => ?_) (fun hr0 => ?_)⟩
      · refine ⟨_, rfl, b, _, 1, _, rfl, rfl, sq_of B1.at_, rfl, _, rfl, b, _, 0, _, rfl, rfl, sq_of B1.at_, rfl, c, _, rfl, .inl (sq_of B1.cells), i, _, rfl, rfl, _, rfl, ite2 (fun hi => ?_) (fun hi => ?_)⟩
        · have hi : i < ((ns.map V.int).length : Int) := of_decide_eq_true hi
          have hi2 : i.toNat < ns.length := by
            rw [List.length_map] at hi
            have := B1.i0
            omega
          have g : (ns.map V.int)[i.toNat]? = some (.int ns[i.toNat]) := by
            rw [List.getElem?_map, List.getElem?_eq_getElem hi2]
            rfl
          have g2 : atI (ns.map V.int) i = some (.int ns[i.toNat]) := at_of (j := i.toNat) (by have := B1.i0; omega) g
          generalize ns[i.toNat] = x at g2
          -- piece = abs(int(bag[0][bag[1]]))
          refine ⟨_, rfl, b, _, 0, _, rfl, rfl, sq_of B1.at_, rfl, _, rfl, b, _, 1, _, rfl, rfl, sq_of B1.at_, rfl, c, _, i, _, rfl, rfl, sq_of B1.cells, g2, .inl ⟨x, rfl, x, rfl, ?_⟩⟩
          generalize hy : (if x < 0 then -x else x) = y
          have hy0 : 0 ≤ y := by
            rw [← hy]
            split <;> omega
          -- bag[1] = bag[1] + 1
          refine ⟨_, rfl, b, _, 1, _, rfl, rfl, sq_of B1.at_, rfl, i, 1, rfl, rfl, _, rfl, b, _, 1, 1, rfl, rfl, B1.at_, rfl, ?_⟩
          have B2 := B1.set (i' := i + 1) (n' := n) (by have := B1.i0; omega) B1.r0 B1.m0 B1.m1
          -- if piece >= 10 ** 18
          refine ⟨_, rfl, 10, 18, rfl, rfl, ⟨by decide, by decide, by decide⟩, _, _, rfl, rfl, _, rfl, ite2 (fun hp => ?_) (fun hp => ?_)⟩
          · refine ⟨_, rfl, _, rfl, b, _, 2, 2, rfl, rfl, B2.at_, rfl, _, _, _, rfl, _, _, _, _, _, _, B2.set (r' := y) (n' := n) B2.i0 hy0 B2.m0 B2.m1⟩
          · refine ⟨_, rfl, b, _, 3, _, rfl, rfl, sq_of B2.at_, rfl, m, 40014, rfl, rfl, .inr ⟨by decide, by decide⟩, _, rfl, ?_⟩
            repeat walk_at "rd"
            refine ⟨b, _, 3, 3, rfl, rfl, B2.at_, rfl, _, _, _, rfl, _, _, _, _, _, _, B2.set (n' := n) (m' := (m * 40014 + y % 999979 * 613 + 29) % 2147483579) B2.i0 B2.r0 (Int.emod_nonneg _ (by decide)) (Int.lt_trans (Int.emod_lt_of_pos _ (by decide)) (by decide))⟩
        · exact ⟨_, _, _, rfl, c, ns, i, r, m, n, B1⟩
      · exact ⟨_, _, _, rfl, c, ns, i, r, m, n, B1⟩
    · obtain ⟨y2, y3, y4, rfl, c, ns, i, r, m, n, B⟩ := hM
      -- if bag[2] > 0
      refine ⟨_, rfl, b, _, 2, _, rfl, rfl, sq_of B.at_, rfl, r, 0, rfl, rfl, _, rfl, ite2 (fun hr1 => ?_) (fun hr1 => ?_)⟩
      · have hr1 : 0 < r := of_decide_eq_true hr1
        refine ⟨_, rfl, b, _, 2, _, rfl, rfl, sq_of B.at_, rfl, .inl ⟨r, rfl, _, rfl, r, z, rfl, rfl, hz0, ?_⟩⟩
        refine ⟨_, rfl, b, _, 2, _, rfl, rfl, sq_of B.at_, rfl, _, rfl, r, z, rfl, rfl, ⟨hz0, hz1⟩, _, rfl, b, _, 2, 2, rfl, rfl, B.at_, rfl, _, rfl, ?_⟩
        exact q _ _ (Int.emod_nonneg _ (by omega)) (Int.emod_lt_of_pos _ hz0) ⟨_, _, _, _, _, _, B.set (r' := r / z) (n' := n) B.i0 (Int.ediv_nonneg B.r0 (by omega)) B.m0 B.m1⟩
      · refine ⟨_, rfl, b, _, 3, _, rfl, rfl, sq_of B.at_, rfl, .inl ⟨m, rfl, ?_⟩⟩
        have hm : -(2 ^ 64) < m ∧ m < 2 ^ 64 := ⟨Int.lt_of_lt_of_le (by decide) B.m0, Int.lt_trans B.m1 (by decide)⟩
        refine ⟨_, rfl, _, rfl, m, m, rfl, rfl, .inl hm, _, _, rfl, rfl, .inr ⟨by decide, by decide⟩, _, rfl, _, _, rfl, rfl, .inr ⟨by decide, by decide⟩, _, _, rfl, rfl, _, rfl, b, _, 4, _, rfl, rfl, sq_of B.at_, rfl, _, _, rfl, rfl, .inr ⟨by decide, by decide⟩, _, _, rfl, rfl, _, _, rfl, rfl, .inl ⟨_, rfl, _, _, rfl, rfl, (show (0 : Int) < _ by decide), _, rfl, b, _, 3, 3, rfl, rfl, B.at_, rfl, ?_⟩⟩
        have B2 := B.set (n' := n) (m' := (m * m * 31 + m * 52774 + n * 130363 + 70001) % 2147483629) B.i0 B.r0 (Int.emod_nonneg _ (by decide)) (Int.lt_trans (Int.emod_lt_of_pos _ (by decide)) (by decide))
        refine ⟨_, rfl, b, _, 3, _, rfl, rfl, sq_of B2.at_, rfl, _, 71, rfl, rfl, ⟨by decide, by decide⟩, _, rfl, b, _, 3, _, rfl, rfl, sq_of B2.at_, rfl, .inl ⟨_, rfl, _, 9001, rfl, rfl, (show (0 : Int) < _ by decide), _, _, rfl, rfl, .inr ⟨by decide, by decide⟩, _, _, rfl, rfl, .inl ⟨_, rfl, _, rfl, _, _, rfl, rfl, hz0, ?_⟩⟩⟩
        exact q _ _ (Int.emod_nonneg _ (by omega)) (Int.emod_lt_of_pos _ hz0) ⟨_, _, _, _, _, _, B2⟩
def SeqV (K : PySem.W.Frag) (H : Hp) (x : V) (items : List V) : Prop :=
  (∃ p, x = .ref p ∧ SqL K H p items) ∨ (∃ p, x = .ref p ∧ SqT K H p items) ∨ ∃ z : Str, x = .str z ∧ z.length ≤ sizeLine ∧ items = z.cps.toList.map fun c => V.str ⟨#[c]⟩
theorem SeqV.mono {H H' : Hp} {x : V} {items : List V} (h : SeqV K H x items) (e : Ex H H') : SeqV K H' x items := by
  rcases h with ⟨p, hx, h⟩ | ⟨p, hx, h⟩ | h
  · exact .inl ⟨p, hx, ex_l e h⟩
  · exact .inr (.inl ⟨p, hx, ex_t e h⟩)
  · exact .inr (.inr h)
theorem SeqV.len {H : Hp} {x : V} {items : List V} (h : SeqV K H x items) : LenV K x H items.length := by
  rcases h with ⟨p, rfl, h⟩ | ⟨p, rfl, h⟩ | ⟨z, rfl, hz, e⟩
  · exact .inl ⟨_, h, rfl⟩
  · exact .inr ⟨_, h, rfl⟩
  · refine ⟨hz, ?_⟩
    rw [e, List.length_map, Array.length_toList]
    rfl
theorem SeqV.item {H : Hp} {x : V} {items : List V} {d : Int} {v : V} {Q : VK} (h : SeqV K H x items) (hd : 0 ≤ d) (hv : items[d.toNat]? = some v) (q : Q v H) : rIx K x (.int d) H Q := by
  rcases h with ⟨p, rfl, h⟩ | ⟨p, rfl, h⟩ | ⟨z, rfl, hz, e⟩
  · exact .inl ⟨p, _, d, v, rfl, rfl, h, at_of (j := d.toNat) (by omega) hv, q⟩
  · exact .inr (.inl ⟨p, _, d, v, rfl, rfl, h, at_of (j := d.toNat) (by omega) hv, q⟩)
  · subst e
    rw [List.getElem?_map] at hv
    obtain ⟨c, hc, rfl⟩ := Option.map_eq_some_iff.mp hv
    exact .inr (.inr ⟨z, d, c, rfl, rfl, hz, at_of' (by omega) hc, q⟩)
def spOf (K : PySem.W.Frag) : Sp := fun vs H Q _ => ∃ (b : Addr) (x : V) (G : Hp) (items : List V), vs = [.ref b, x] ∧ At b G H ∧ SeqV K G x items ∧ 0 < items.length ∧ items.length < 1073741824 ∧ ∀ v H', v ∈ items → At b G H' → Q v H'
theorem ok_law_of {AA : Adr} (T : Txt K mg AA) : Pr P w K mg base "_law_of" s_law_of p_law_of 2 (spOf K) := by
  refine pr_mk T.f_law_of sc_law_of (fun vs H Q E h => ?_) (fun f cdv A outer s H vs Q E hr h => ?_)
  · obtain ⟨b, x, G, items, rfl, _⟩ := h
    rfl
  · obtain ⟨b, x, G, items, rfl, hA, hx, h0, h1, q⟩ := h
    refine ⟨_, (pss_one (ps_ret (pe_ix (ix_seqK (K := K) rfl) (pv 1) (pcall (ok_law_draw T) hr (pa_cons (pv 0) (pa_cons (pe_callB call_len (by rfl) T.n_len PySem.boot_len (pa_cons (pv 1) pa_nil)) pa_nil))) (fun _ _ => rfl)))), ?_⟩
    refine ⟨_, rfl, _, rfl, _, rfl, x, _, rfl, (hx.mono hA.ex).len, b, _, G, rfl, hA, by omega, by omega, fun d H' d0 d1 hA' => ?_⟩
    have hd : d.toNat < items.length := by omega
    exact (hx.mono hA'.ex).item d0 (List.getElem?_eq_getElem hd) (q _ _ (List.getElem_mem hd) hA')
end
end Eyes

set_option Elab.async false
set_option linter.all false
set_option maxRecDepth 100000
set_option maxHeartbeats 4000000
namespace Eyes
open PySem PySem.Spec PyProof.Rows L2 Evl
/-! ### data in the heap -/
mutual
inductive Rep (H : Hp) : V → PyData → Prop
  | non : Rep H .non .none
  | bl (b : Bool) : Rep H (.bl b) (.bool b)
  | int (i : Int) : Rep H (.int i) (.int i)
  | str (x : Str) : Rep H (.str x) (.str x)
  | lst {a : Addr} {xs : List V} {ds : List PyData} : H a = some (.lst xs) → Reps H xs ds → Rep H (.ref a) (.list ds)
  | tup {a : Addr} {xs : List V} {ds : List PyData} : H a = some (.tup xs) → Reps H xs ds → Rep H (.ref a) (.tuple ds)
inductive Reps (H : Hp) : List V → List PyData → Prop
  | nil : Reps H [] []
  | cons {v : V} {vs : List V} {d : PyData} {ds : List PyData} : Rep H v d → Reps H vs ds → Reps H (v :: vs) (d :: ds)
end
mutual
theorem Rep.mono {H H' : Hp} (e : Ex H H') : ∀ {v : V} {d : PyData}, Rep H v d → Rep H' v d
  | _, _, .non => .non
  | _, _, .bl b => .bl b
  | _, _, .int i => .int i
  | _, _, .str x => .str x
  | _, _, .lst h r => .lst (e _ _ h) (Reps.mono e r)
  | _, _, .tup h r => .tup (e _ _ h) (Reps.mono e r)
theorem Reps.mono {H H' : Hp} (e : Ex H H') : ∀ {v : List V} {d : List PyData}, Reps H v d → Reps H' v d
  | _, _, .nil => .nil
  | _, _, .cons h r => .cons (Rep.mono e h) (Reps.mono e r)
end
theorem Reps.length {H : Hp} : ∀ {xs : List V} {ds : List PyData}, Reps H xs ds → xs.length = ds.length
  | _, _, .nil => rfl
  | _, _, .cons _ r => congrArg Nat.succ (Reps.length r)
theorem Reps.get {H : Hp} : ∀ {xs : List V} {ds : List PyData} {i : Nat} {x : V}, Reps H xs ds → xs[i]? = some x → ∃ d, ds[i]? = some d ∧ Rep H x d
  | _, _, _, _, .nil, e => by simp at e
  | _, _, 0, _, .cons h _, e => by
    simp at e
    subst e
    exact ⟨_, rfl, h⟩
  | _, _, i + 1, x, .cons _ r, e => by
    obtain ⟨d, h1, h2⟩ := Reps.get (i := i) (x := x) r (by simpa using e)
    exact ⟨d, by simpa using h1, h2⟩
theorem Reps.of_bl {H : Hp} : ∀ bs : List Bool, Reps H (bs.map V.bl) (bs.map PyData.bool)
  | [] => .nil
  | b :: bs => .cons (.bl b) (Reps.of_bl bs)
theorem depth_get : ∀ {ds : List PyData} {i : Nat} {d : PyData}, ds[i]? = some d → d.depth ≤ PyData.depthAll ds
  | [], _, _, e => by simp at e
  | x :: xs, 0, _, e => by
    simp at e
    subst e
    exact Nat.le_max_left _ _
  | x :: xs, i + 1, d, e => Nat.le_trans (depth_get (ds := xs) (i := i) (by simpa using e)) (Nat.le_max_right _ _)
mutual
def wid : PyData → Nat
  | .list xs => max xs.length (widAll xs)
  | .tuple xs => max xs.length (widAll xs)
  | .dict _ => 0
  | .none => 0
  | .bool _ => 0
  | .int _ => 0
  | .str _ => 0
def widAll : List PyData → Nat
  | [] => 0
  | x :: xs => max (wid x) (widAll xs)
end
theorem wid_get : ∀ {ds : List PyData} {i : Nat} {d : PyData}, ds[i]? = some d → wid d ≤ widAll ds
  | [], _, _, e => by simp at e
  | x :: xs, 0, _, e => by
    simp at e
    subst e
    exact Nat.le_max_left _ _
  | x :: xs, i + 1, d, e => Nat.le_trans (wid_get (ds := xs) (i := i) (by simpa using e)) (Nat.le_max_right _ _)
def tyD : PyData → String
  | .none => "NoneType" | .bool _ => "bool" | .int _ => "int" | .str _ => "str" | .list _ => "list" | .tuple _ => "tuple" | .dict _ => "dict"
theorem Rep.ty {K : PySem.W.Frag} {H : Hp} {v : V} {d : PyData} (h : Rep H v d) : TyX K H v (.type (tyD d)) := by
  cases h with
  | non => exact .base .non
  | bl b => exact .base (.bl b)
  | int b => exact .base (.int b)
  | str b => exact .base (.str b)
  | lst h _ => exact .base (.lst h)
  | tup h _ => exact .base (.tup h)
theorem kit_t (K : PySem.W.Frag) {a b : String} (h : (kitB a b).isSome = true) : ∃ r, PySem.W.kitOne K (.type a) (.type b) = some r := by
  obtain ⟨r, e⟩ := Option.isSome_iff_exists.mp h
  exact ⟨r, kit_ty e⟩
theorem kit_list (K : PySem.W.Frag) : ∀ d : PyData, ∃ b, PySem.W.kitOne K (.type (tyD d)) (.type "list") = some b
  | .none => kit_t K (a := "NoneType") (by decide +kernel) | .bool _ => kit_t K (a := "bool") (by decide +kernel) | .int _ => kit_t K (a := "int") (by decide +kernel) | .str _ => kit_t K (a := "str") (by decide +kernel)
  | .list _ => kit_t K (a := "list") (by decide +kernel) | .tuple _ => kit_t K (a := "tuple") (by decide +kernel) | .dict _ => kit_t K (a := "dict") (by decide +kernel)
theorem kit_tuple (K : PySem.W.Frag) : ∀ d : PyData, ∃ b, PySem.W.kitOne K (.type (tyD d)) (.type "tuple") = some b
  | .none => kit_t K (a := "NoneType") (by decide +kernel) | .bool _ => kit_t K (a := "bool") (by decide +kernel) | .int _ => kit_t K (a := "int") (by decide +kernel) | .str _ => kit_t K (a := "str") (by decide +kernel)
  | .list _ => kit_t K (a := "list") (by decide +kernel) | .tuple _ => kit_t K (a := "tuple") (by decide +kernel) | .dict _ => kit_t K (a := "dict") (by decide +kernel)
theorem kit_bool (K : PySem.W.Frag) : ∀ d : PyData, ∃ b, PySem.W.kitOne K (.type (tyD d)) (.type "bool") = some b
  | .none => kit_t K (a := "NoneType") (by decide +kernel) | .bool _ => kit_t K (a := "bool") (by decide +kernel) | .int _ => kit_t K (a := "int") (by decide +kernel) | .str _ => kit_t K (a := "str") (by decide +kernel)
  | .list _ => kit_t K (a := "list") (by decide +kernel) | .tuple _ => kit_t K (a := "tuple") (by decide +kernel) | .dict _ => kit_t K (a := "dict") (by decide +kernel)
theorem kit_int (K : PySem.W.Frag) : ∀ d : PyData, ∃ b, PySem.W.kitOne K (.type (tyD d)) (.type "int") = some b
  | .none => kit_t K (a := "NoneType") (by decide +kernel) | .bool _ => kit_t K (a := "bool") (by decide +kernel) | .int _ => kit_t K (a := "int") (by decide +kernel) | .str _ => kit_t K (a := "str") (by decide +kernel)
  | .list _ => kit_t K (a := "list") (by decide +kernel) | .tuple _ => kit_t K (a := "tuple") (by decide +kernel) | .dict _ => kit_t K (a := "dict") (by decide +kernel)
theorem kit_str (K : PySem.W.Frag) : ∀ d : PyData, ∃ b, PySem.W.kitOne K (.type (tyD d)) (.type "str") = some b
  | .none => kit_t K (a := "NoneType") (by decide +kernel) | .bool _ => kit_t K (a := "bool") (by decide +kernel) | .int _ => kit_t K (a := "int") (by decide +kernel) | .str _ => kit_t K (a := "str") (by decide +kernel)
  | .list _ => kit_t K (a := "list") (by decide +kernel) | .tuple _ => kit_t K (a := "tuple") (by decide +kernel) | .dict _ => kit_t K (a := "dict") (by decide +kernel)
theorem kit_scal (K : PySem.W.Frag) {a : String} (h1 : kitB a "list" = some false) (h2 : kitB a "tuple" = some false) : PySem.W.kitAny K (.type a) [.type "list", .type "tuple"] = some false :=
  kitAny_cons (b := false) (kit_ty h1) (fun _ => kitAny_cons (b := false) (kit_ty h2) (fun _ => kitAny_nil) (fun z => nomatch z)) (fun z => nomatch z)
def seqD : PyData → Bool
  | .list _ => true | .tuple _ => true | _ => false
theorem kit_seq (K : PySem.W.Frag) : ∀ d : PyData, PySem.W.kitAny K (.type (tyD d)) [.type "list", .type "tuple"] = some (seqD d)
  | .none => kit_scal K (a := "NoneType") (by decide +kernel) (by decide +kernel) | .bool _ => kit_scal K (a := "bool") (by decide +kernel) (by decide +kernel)
  | .int _ => kit_scal K (a := "int") (by decide +kernel) (by decide +kernel) | .str _ => kit_scal K (a := "str") (by decide +kernel) (by decide +kernel) | .dict _ => kit_scal K (a := "dict") (by decide +kernel) (by decide +kernel)
  | .list _ => kitAny_cons (b := true) (kit_ty (a := "list") (by decide +kernel)) (fun z => nomatch z) (fun _ => rfl)
  | .tuple _ => kitAny_cons (b := false) (kit_ty (a := "tuple") (by decide +kernel)) (fun _ => kitAny_cons (b := true) (kit_ty (a := "tuple") (by decide +kernel)) (fun z => nomatch z) (fun _ => rfl)) (fun z => nomatch z)
theorem walk_zipT {K : PySem.W.Frag} {a b : Addr} {xs ys : List V} {n : Nat} (hn : n = min xs.length ys.length) : Walk (RZ.ItzT K a b) n (fun H => SqT K H a xs ∧ SqT K H b ys) (YPair (fun i => xs[i]?) (fun i => ys[i]?)) := by
  subst hn
  refine ⟨fun i _ hi q => ?_, fun _ q => ⟨xs, ys, q.1, q.2, by omega⟩, fun i H v H' _ q y => ?_⟩
  · have h1 : i < xs.length := by omega
    have h2 : i < ys.length := by omega
    exact ⟨xs, ys, xs[i], ys[i], q.1, q.2, by simp [h1], by simp [h2]⟩
  · obtain ⟨T, x, z, h1, h2, h3, h4, h5⟩ := y
    exact ⟨T, x, z, h1, h2, h3, h4 xs q.1, h5 ys q.2⟩
theorem iteDT {c A B : Prop} [Decidable c] (hc : c) (h : A) : if decide c = true then A else B := by
  rw [decide_eq_true hc, if_pos rfl]
  exact h
def spSame (n : Nat) : Sp := fun vs H Q _ => ∃ (x y : V) (d : PyData), vs = [x, y] ∧ Rep H x d ∧ Rep H y d ∧ d.depth < n ∧ wid d ≤ 90000 ∧ ∀ H', Ex H H' → Q (.bl true) H'
section
variable {P : Program} {w : World} {K : PySem.W.Frag} {mg : Str → Option Value} {base : Heap}
theorem ok_law_same {AA : Adr} (T : Txt K mg AA) : ∀ n : Nat, Pr P w K mg base "_law_same" s_law_same p_law_same n (spSame n)
  | 0 => by
    obtain ⟨f, fd, F, hb, hm⟩ := T.f_law_same
    exact ⟨f, fd, hm, F, hb, fun vs H Q E h => by
      obtain ⟨x, y, d, _, _, _, h, _⟩ := h
      omega, fun A outer s H args us vs Q E _ _ _ _ h => by
      obtain ⟨x, y, d, _, _, _, h, _⟩ := h
      omega⟩
  | n + 1 => by
    have G := ok_law_same T n
    refine pr_mk T.f_law_same sc_law_same (fun vs H Q E h => ?_) (fun f cdv A outer s H vs Q E hr h => ?_)
    · obtain ⟨x, y, d, rfl, _⟩ := h
      rfl
    · obtain ⟨x, y, d, rfl, hx, hy, hd, hwd, q⟩ := h
      refine ⟨_, (pss_cons (ps_if (PW.pt (pw_or (pt_cmpR op_isN (pv 1) pe_non (nomark _)) (pw_or1 (pt_cmpR op_isN (pv 0) pe_non (nomark _)))))
      (pss_one (ps_ret (pe_and (pe_cmpR op_isN (pv 1) pe_non (nomark _)) (pe_one (pe_cmpR op_isN (pv 0) pe_non (nomark _))))))
      pss_nil)
      (pss_cons (ps_if (pt_val (pe_callB call_isiT (by rfl) T.n_isinstance PyProof.Rows.boot_isinstance (pa_cons (pv 1) (pa_cons (pe_tup (pa_cons (pe_bltn (v := .ty "list") (by rfl) T.n_list (by decide +kernel) rfl) (pa_cons (pe_bltn (v := .ty "tuple") (by rfl) T.n_tuple (by decide +kernel) rfl) pa_nil))) pa_nil))))
      (pss_cons (ps_if (PW.pt (pw_or (pt_cmpR op_ne (pe_callB (call_isiK (K := K) rfl) (by rfl) T.n_isinstance PyProof.Rows.boot_isinstance (pa_cons (pv 0) (pa_cons (pe_bltn (v := .ty "list") (by rfl) T.n_list (by decide +kernel) rfl) pa_nil))) (pe_callB (call_isiK (K := K) rfl) (by rfl) T.n_isinstance PyProof.Rows.boot_isinstance (pa_cons (pv 1) (pa_cons (pe_bltn (v := .ty "list") (by rfl) T.n_list (by decide +kernel) rfl) pa_nil))) (nomark _)) (pw_or1 (pt_cmpR op_ne (pe_callB (call_isiK (K := K) rfl) (by rfl) T.n_isinstance PyProof.Rows.boot_isinstance (pa_cons (pv 0) (pa_cons (pe_bltn (v := .ty "tuple") (by rfl) T.n_tuple (by decide +kernel) rfl) pa_nil))) (pe_callB (call_isiK (K := K) rfl) (by rfl) T.n_isinstance PyProof.Rows.boot_isinstance (pa_cons (pv 1) (pa_cons (pe_bltn (v := .ty "tuple") (by rfl) T.n_tuple (by decide +kernel) rfl) pa_nil))) (nomark _)))))
      (pss_one (ps_ret pe_bl))
      pss_nil)
      (pss_one (ps_ret (pe_and (pe_cmpR op_eq (pe_callB call_len (by rfl) T.n_len PySem.boot_len (pa_cons (pv 0) pa_nil)) (pe_callB call_len (by rfl) T.n_len PySem.boot_len (pa_cons (pv 1) pa_nil)) (nomark _)) (pe_one (pe_callB (cr_all rfl) (by rfl) T.n_all PyProof.Rows.boot_all (pa_cons (pe_lc (own := [("_law_x", 3), ("_law_y", 4)]) (g := gTup K 2 (gCons (gName 3) (gCons (gName 4) gNil))) (tt := tYes) rfl sc_law_same.nd (RZ.pi_zipA (by rfl) T.n_zip (pa_cons (pv 0) (pa_cons (pv 1) pa_nil))) (blkOk_by (own := [("_law_x", 3), ("_law_y", 4)]) (N := n_law_same) (sc := defScope s_law_same) (by decide +kernel)) (fun _ _ _ _ _ => (pg_tup (by rfl) (pgs_cons (pg_name (i := 3) sc_law_same.nd rfl (.inl rfl)) (pgs_cons (pg_name (i := 4) sc_law_same.nd rfl (.inl rfl)) pgs_nil)))) (fun _ _ _ _ _ => pts_nil) (fun _ _ _ _ _ => (pcall G hr (pa_cons (pv 3) (pa_cons (pv 4) pa_nil))))) pa_nil)))))))
      pss_nil)
      (pss_cons (ps_if (pt_val (pe_callB (call_isiK (K := K) rfl) (by rfl) T.n_isinstance PyProof.Rows.boot_isinstance (pa_cons (pv 1) (pa_cons (pe_bltn (v := .ty "dict") (by rfl) T.n_dict (by decide +kernel) rfl) pa_nil))))
      pss_never
      pss_nil)
      (pss_cons (ps_if (PW.pt (pw_or (pt_cmpR op_ne (pe_callB (call_isiK (K := K) rfl) (by rfl) T.n_isinstance PyProof.Rows.boot_isinstance (pa_cons (pv 1) (pa_cons (pe_bltn (v := .ty "bool") (by rfl) T.n_bool (by decide +kernel) rfl) pa_nil))) (pe_callB (call_isiK (K := K) rfl) (by rfl) T.n_isinstance PyProof.Rows.boot_isinstance (pa_cons (pv 0) (pa_cons (pe_bltn (v := .ty "bool") (by rfl) T.n_bool (by decide +kernel) rfl) pa_nil))) (nomark _)) (pw_or1 (pt_cmpR op_ne (pe_callB (call_isiK (K := K) rfl) (by rfl) T.n_isinstance PyProof.Rows.boot_isinstance (pa_cons (pv 1) (pa_cons (pe_bltn (v := .ty "int") (by rfl) T.n_int (by decide +kernel) rfl) pa_nil))) (pe_callB (call_isiK (K := K) rfl) (by rfl) T.n_isinstance PyProof.Rows.boot_isinstance (pa_cons (pv 0) (pa_cons (pe_bltn (v := .ty "int") (by rfl) T.n_int (by decide +kernel) rfl) pa_nil))) (nomark _)))))
      (pss_one (ps_ret pe_bl))
      pss_nil)
      (pss_one (ps_ret (pe_and (pe_cmpR op_eq (pe_callB (call_isiK (K := K) rfl) (by rfl) T.n_isinstance PyProof.Rows.boot_isinstance (pa_cons (pv 1) (pa_cons (pe_bltn (v := .ty "str") (by rfl) T.n_str (by decide +kernel) rfl) pa_nil))) (pe_callB (call_isiK (K := K) rfl) (by rfl) T.n_isinstance PyProof.Rows.boot_isinstance (pa_cons (pv 0) (pa_cons (pe_bltn (v := .ty "str") (by rfl) T.n_str (by decide +kernel) rfl) pa_nil))) (nomark _)) (pe_one (pe_cmpR op_eq (pv 0) (pv 1) (by rfl)))))))))), ?_⟩
      obtain ⟨kl, hkl⟩ := kit_list K d
      obtain ⟨kt, hkt⟩ := kit_tuple K d
      obtain ⟨kb, hkb⟩ := kit_bool K d
      obtain ⟨ki, hki⟩ := kit_int K d
      obtain ⟨ks, hks⟩ := kit_str K d
      -- if due is None or found is None
      refine ⟨_, rfl, rfl, _, rfl, ?_⟩
      by_cases hn : d = .none
      · subst hn
        cases hx
        cases hy
        refine iteT ?_
        refine iteT ?_
        refine ⟨_, rfl, rfl, _, rfl, iteT ?_⟩
        refine ⟨_, rfl, rfl, ?_⟩
        exact q _ (Ex.refl _)
      · have hxn : decide (x = V.non) = false := decide_eq_false fun e => by
          subst e
          cases hx
          exact hn rfl
        have hyn : decide (y = V.non) = false := decide_eq_false fun e => by
          subst e
          cases hy
          exact hn rfl
        rw [hyn]
        refine iteF ?_
        refine ⟨_, rfl, rfl, _, rfl, ?_⟩
        rw [hxn]
        refine iteF ?_
        -- if isinstance(due, (list, tuple))
        refine ⟨_, rfl, by show 2 ≤ sizeLine; decide, fun t1 ht1 => ?_⟩
        have e1 : Ex H (upd H t1 (.tup [.ty "list", .ty "tuple"])) := Ex.new ht1
        have hx := Rep.mono e1 hx
        have hy := Rep.mono e1 hy
        refine ⟨y, t1, [.ty "list", .ty "tuple"], _, [.type "list", .type "tuple"], _, rfl, upd_same, .cons (.ty _) (.cons (.ty _) .nil), hy.ty, kit_seq K d, _, rfl, ?_⟩
        generalize upd H t1 (.tup [.ty "list", .ty "tuple"]) = H1 at e1 hx hy
        cases hs : seqD d with
        | false =>
          refine iteF ?_
          have fl : PySem.W.kitOne K (.type (tyD d)) (.type "dict") = some false ∧ x = y ∧ scal x y = true := by
            cases hx with
            | non => exact absurd rfl hn
            | bl b => cases hy; exact ⟨kit_ty (a := "bool") (by decide +kernel), rfl, rfl⟩
            | int b => cases hy; exact ⟨kit_ty (a := "int") (by decide +kernel), rfl, rfl⟩
            | str b => cases hy; exact ⟨kit_ty (a := "str") (by decide +kernel), rfl, rfl⟩
            | lst _ _ => cases hs
            | tup _ _ => cases hs
          obtain ⟨hkd, hxy, hsc⟩ := fl
          subst hxy
          refine ⟨_, rfl, x, .ty "dict", _, _, _, rfl, .ty _, hy.ty, hkd, _, rfl, iteF ?_⟩
          refine ⟨_, rfl, x, .ty "bool", _, _, _, rfl, .ty _, hy.ty, hkb, _, rfl, x, .ty "bool", _, _, _, rfl, .ty _, hx.ty, hkb, rfl, _, rfl, ?_⟩
          refine iteNS rfl ?_
          refine ⟨_, rfl, x, .ty "int", _, _, _, rfl, .ty _, hy.ty, hki, _, rfl, x, .ty "int", _, _, _, rfl, .ty _, hx.ty, hki, rfl, _, rfl, ?_⟩
          refine iteNS rfl ?_
          refine ⟨_, rfl, x, .ty "str", _, _, _, rfl, .ty _, hy.ty, hks, _, rfl, x, .ty "str", _, _, _, rfl, .ty _, hx.ty, hks, rfl, _, rfl, iteDT rfl ?_⟩
          refine ⟨_, rfl, _, rfl, hsc, ?_⟩
          rw [decide_eq_true rfl]
          exact q _ e1
        | true =>
          refine iteT ?_
          -- kinds
          refine ⟨_, rfl, x, .ty "list", _, _, _, rfl, .ty _, hx.ty, hkl, _, rfl, y, .ty "list", _, _, _, rfl, .ty _, hy.ty, hkl, rfl, _, rfl, ?_⟩
          refine iteNS rfl ?_
          refine ⟨_, rfl, x, .ty "tuple", _, _, _, rfl, .ty _, hx.ty, hkt, _, rfl, y, .ty "tuple", _, _, _, rfl, .ty _, hy.ty, hkt, rfl, _, rfl, ?_⟩
          refine iteNS rfl ?_
          -- len(found) == len(due) and all([..])
          have main : ∃ (ds : List PyData) (p1 p2 : Addr) (xs ys : List V), x = .ref p1 ∧ y = .ref p2 ∧ Reps H1 xs ds ∧ Reps H1 ys ds ∧ PyData.depthAll ds < n ∧ ds.length ≤ 90000 ∧ widAll ds ≤ 90000 ∧ ((H1 p1 = some (.lst xs) ∧ H1 p2 = some (.lst ys)) ∨ (H1 p1 = some (.tup xs) ∧ H1 p2 = some (.tup ys))) := by
            cases hx with
            | non => exact absurd rfl hn
            | bl b => cases hs
            | int b => cases hs
            | str b => cases hs
            | lst h r =>
              cases hy with
              | lst h' r' => exact ⟨_, _, _, _, _, rfl, rfl, r, r', by simp only [PyData.depth] at hd; omega, by simp only [wid] at hwd; omega, by simp only [wid] at hwd; omega, .inl ⟨h, h'⟩⟩
            | tup h r =>
              cases hy with
              | tup h' r' => exact ⟨_, _, _, _, _, rfl, rfl, r, r', by simp only [PyData.depth] at hd; omega, by simp only [wid] at hwd; omega, by simp only [wid] at hwd; omega, .inr ⟨h, h'⟩⟩
          obtain ⟨ds, p1, p2, xs, ys, rfl, rfl, rx, ry, hdn, hl1, hl2, ho⟩ := main
          have lx := rx.length
          have ly := ry.length
          have LX : LenV K (.ref p1) H1 xs.length := by
            rcases ho with ⟨h, _⟩ | ⟨h, _⟩
            · exact .inl ⟨_, sq_of h, rfl⟩
            · exact .inr ⟨_, st_of h, rfl⟩
          have LY : LenV K (.ref p2) H1 ys.length := by
            rcases ho with ⟨_, h⟩ | ⟨_, h⟩
            · exact .inl ⟨_, sq_of h, rfl⟩
            · exact .inr ⟨_, st_of h, rfl⟩
          refine ⟨_, rfl, .ref p1, _, rfl, LX, _, rfl, .ref p2, _, rfl, LY, rfl, _, rfl, iteDT (by rw [lx, ly]) ?_⟩
          -- all([same(x, y) for x, y in zip(found, due)])
          have turn : ∀ (D : Addr) (i : Nat) (v : V) (H3 H4 : Hp), i < ds.length → (H1 D = none ∧ Ex H1 H3 ∧ H3 D = some (.lst (List.replicate i (V.bl true)))) → YPair (fun i => xs[i]?) (fun i => ys[i]?) i H3 v H4 →
              gTup K 2 (gCons (gName 3) (gCons (gName 4) gNil)) v [some (V.ref p1), some (V.ref p2), none, none, none] H4 fun σ2 H5 => wipe σ2 [3, 4] = [some (V.ref p1), some (V.ref p2), none, none, none] ∧ tYes σ2 H5 fun b H6 =>
                if b = true then tCall (spSame n) [] (fun _ _ _ => False) (tCons (tVar 3) (tCons (tVar 4) tNil)) σ2 H6 fun y H7 => ∃ acc, H7 D = some (.lst acc) ∧ acc.length < sizeLine ∧
                  (fun i H' => H1 D = none ∧ Ex H1 H' ∧ H' D = some (.lst (List.replicate i (V.bl true)))) (i + 1) (upd H7 D (.lst (acc ++ [y]))) else (fun i H' => H1 D = none ∧ Ex H1 H' ∧ H' D = some (.lst (List.replicate i (V.bl true)))) (i + 1) H6 := by
            intro D i v H3 H4 hi hp hy4
            obtain ⟨T1, u1, u2, rfl, hT, rfl, g1, g2⟩ := hy4
            obtain ⟨hD, ex3, hD3⟩ := hp
            obtain ⟨d1, hd1, r1⟩ := rx.get g1
            obtain ⟨d2, hd2, r2⟩ := ry.get g2
            rw [hd1] at hd2
            cases hd2
            have ex4 : Ex H3 (upd H3 T1 (.tup [u1, u2])) := Ex.new hT
            refine ⟨T1, [u1, u2], rfl, st_of upd_same, rfl, u1, [u2], rfl, u2, [], rfl, rfl, rfl, ?_⟩
            refine ⟨u1, rfl, u2, rfl, u1, u2, d1, rfl, Rep.mono (ex3.trans ex4) r1, Rep.mono (ex3.trans ex4) r2, Nat.lt_of_le_of_lt (depth_get hd1) hdn, Nat.le_trans (wid_get hd1) hl2, fun H7 e7 => ?_⟩
            refine ⟨_, e7 _ _ (ex4 _ _ hD3), ?_, hD, ((ex3.trans ex4).trans e7).mut hD, ?_⟩
            · rw [List.length_replicate]
              exact sz_lt (by omega)
            · rw [upd_same, List.replicate_succ']
          have fin : ∀ (D : Addr) (H' : Hp), (H1 D = none ∧ Ex H1 H' ∧ H' D = some (.lst (List.replicate ds.length (V.bl true)))) → tNil [some (V.ref p1), some (V.ref p2), none, none, none] H' fun xs H2 => rAll K (V.ref D :: xs) H2 Q := by
            intro D H' hp
            refine ⟨D, List.replicate ds.length true, rfl, sq_of (hp.2.2.trans (by rw [List.map_replicate])), ?_⟩
            rw [show (List.replicate ds.length true).all id = true by simp]
            exact q _ (e1.trans hp.2.1)
          rcases ho with ⟨h1, h2⟩ | ⟨h1, h2⟩
          · refine ⟨_, rfl, _, rfl, p1, p2, xs, ys, rfl, .inl ⟨sq_of h1, sq_of h2, fun D hD => lc_it (walk_zip (n := ds.length) (by omega)) (fun i H' => H1 D = none ∧ Ex H1 H' ∧ H' D = some (.lst (List.replicate i (V.bl true)))) ⟨hD, Ex.new hD, upd_same⟩ (fun i H' _ hp => ⟨sq_of (hp.2.1 _ _ h1), sq_of (hp.2.1 _ _ h2)⟩) (fun i v H3 H4 hi hp hy4 => turn D i v H3 H4 hi hp hy4) (fun H' hp => fin D H' hp)⟩⟩
          · refine ⟨_, rfl, _, rfl, p1, p2, xs, ys, rfl, .inr ⟨st_of h1, st_of h2, fun D hD => lc_it (walk_zipT (n := ds.length) (by omega)) (fun i H' => H1 D = none ∧ Ex H1 H' ∧ H' D = some (.lst (List.replicate i (V.bl true)))) ⟨hD, Ex.new hD, upd_same⟩ (fun i H' _ hp => ⟨st_of (hp.2.1 _ _ h1), st_of (hp.2.1 _ _ h2)⟩) (fun i v H3 H4 hi hp hy4 => turn D i v H3 H4 hi hp hy4) (fun H' hp => fin D H' hp)⟩⟩
end
end Eyes

set_option Elab.async false
set_option linter.all false
set_option maxRecDepth 100000
set_option maxHeartbeats 4000000
namespace Eyes
open PySem PySem.Spec PyProof.Rows L2 Evl TL
def spPs (K : PySem.W.Frag) (C : Addr) (ok : List Ci → Prop) (g : List Ci → V) : Sp := fun vs H Q _ => ∃ (l : Addr) (us : List V) (ps : List Ci), vs = [.ref l] ∧ SqL K H l us ∧ CisAt C H us ps ∧ us.length ≤ 90000 ∧ ok ps ∧ ∀ H', Ex H H' → Q (g ps) H'
def spCi (C : Addr) (ok : Ci → Prop) (g : Ci → V) : Sp := fun vs H Q _ => ∃ (v : V) (c : Ci), vs = [v] ∧ CiAt C H v c ∧ ok c ∧ ∀ H', Ex H H' → Q (g c) H'
def spParts (C : Addr) : Sp := fun vs H Q _ => ∃ (p dx lp : Addr) (us : List V) (kind name : Str) (s d : Int) (t : Str), vs = [.ref p] ∧ H p = some (.ins C dx (flds kind name lp s d t)) ∧ H lp = some (.lst us) ∧ ∀ l, H l = none → Q (.ref l) (upd H l (.lst us))
section
variable {P : Program} {w : World} {K : PySem.W.Frag} {mg : Str → Option Value} {base : Heap} {AA : Adr}
theorem ok_size_of (T : Txt K mg AA) : Pr P w K mg base "size_of" s_size_of p_size_of 1 (spPs K AA.Circle (fun _ => True) fun ps => .int (sizes ps)) := by
  refine pr_mk T.f_size_of sc_size_of (fun vs H Q E h => ?_) (fun f cdv A outer s H vs Q E hr h => ?_)
  · obtain ⟨l, us, ps, rfl, _⟩ := h
    rfl
  · obtain ⟨l, us, ps, rfl, hl, hc, hn, _, q⟩ := h
    refine ⟨_, (pss_one (ps_ret (pe_callB (cr_sum rfl) (by rfl) T.n_sum PyProof.Rows.boot_sum (pa_cons (pe_lc (own := [("part", 1)]) (g := gName 1) (tt := tYes) rfl sc_size_of.nd (pi_list (pv 0)) (blkOk_by (own := [("part", 1)]) (N := n_size_of) (sc := defScope s_size_of) (by decide +kernel)) (fun _ _ _ _ _ => (pg_name (i := 1) sc_size_of.nd rfl (.inl rfl))) (fun _ _ _ _ _ => pts_nil) (fun _ _ _ _ _ => (pe_fldK (K := K) rfl (pv 1) rfl))) pa_nil)))), ?_⟩
    refine ⟨_, rfl, l, rfl, ⟨us, hl⟩, fun D hD => lc_it (walk_list (xs := us)) (fun i H' => H D = none ∧ Ex H H' ∧ H' D = some (.lst ((ps.take i).map fun c => V.int (c.size : Nat)))) ⟨hD, Ex.new hD, upd_same⟩ (fun _ _ _ hp => ex_l hp.2.1 hl) (fun i v H3 H4 hi hp hy => ?_) (fun H' hp => ?_)⟩
    · obtain ⟨rfl, hv⟩ := hy
      obtain ⟨c, hg, hA⟩ := hc.get hv
      obtain ⟨h1, h2, h3⟩ := hp
      obtain ⟨p, dx, l2, ws, rfl, hp, _⟩ := (hA.mono h2).at_
      refine ⟨rfl, _, rfl, p, AA.Circle, dx, _, _, rfl, hp, T.c_Circle, T.a_Circle_size, fl_size, _, h3, ?_, h1, h2.mut h1, ?_⟩
      · rw [List.length_map, List.length_take]
        exact sz_lt (by omega)
      · rw [upd_same, List.take_add_one, hg, List.map_append]
        rfl
    · obtain ⟨h1, h2, h3⟩ := hp
      rw [List.take_of_length_le (by rw [hc.length]; exact Nat.le_refl _)] at h3
      refine ⟨D, ps.map fun c => ((c.size : Nat) : Int), rfl, sq_of (by rw [h3, List.map_map]; rfl), ?_⟩
      rw [← sizes_sum]
      exact q _ h2
theorem ok_depth_over (T : Txt K mg AA) : Pr P w K mg base "depth_over" s_depth_over p_depth_over 1 (spPs K AA.Circle (fun ps => ps ≠ []) fun ps => .int (1 + (depths ps : Int))) := by
  refine pr_mk T.f_depth_over sc_depth_over (fun vs H Q E h => ?_) (fun f cdv A outer s H vs Q E hr h => ?_)
  · obtain ⟨l, us, ps, rfl, _⟩ := h
    rfl
  · obtain ⟨l, us, ps, rfl, hl, hc, hn, hne, q⟩ := h
    refine ⟨_, (pss_one (ps_ret (pe_op op_add pe_int (pe_callB (cr_max rfl) (by rfl) T.n_max PyProof.Rows.boot_max (pa_cons (pe_lc (own := [("part", 1)]) (g := gName 1) (tt := tYes) rfl sc_depth_over.nd (pi_list (pv 0)) (blkOk_by (own := [("part", 1)]) (N := n_depth_over) (sc := defScope s_depth_over) (by decide +kernel)) (fun _ _ _ _ _ => (pg_name (i := 1) sc_depth_over.nd rfl (.inl rfl))) (fun _ _ _ _ _ => pts_nil) (fun _ _ _ _ _ => (pe_fldK (K := K) rfl (pv 1) rfl))) pa_nil))))), ?_⟩
    refine ⟨_, rfl, l, rfl, ⟨us, hl⟩, fun D hD => lc_it (walk_list (xs := us)) (fun i H' => H D = none ∧ Ex H H' ∧ H' D = some (.lst ((ps.take i).map fun c => V.int (c.depth : Nat)))) ⟨hD, Ex.new hD, upd_same⟩ (fun _ _ _ hp => ex_l hp.2.1 hl) (fun i v H3 H4 hi hp hy => ?_) (fun H' hp => ?_)⟩
    · obtain ⟨rfl, hv⟩ := hy
      obtain ⟨c, hg, hA⟩ := hc.get hv
      obtain ⟨h1, h2, h3⟩ := hp
      obtain ⟨p, dx, l2, ws, rfl, hp, _⟩ := (hA.mono h2).at_
      refine ⟨rfl, _, rfl, p, AA.Circle, dx, _, _, rfl, hp, T.c_Circle, T.a_Circle_depth, fl_depth, _, h3, ?_, h1, h2.mut h1, ?_⟩
      · rw [List.length_map, List.length_take]
        exact sz_lt (by omega)
      · rw [upd_same, List.take_add_one, hg, List.map_append]
        rfl
    · obtain ⟨h1, h2, h3⟩ := hp
      rw [List.take_of_length_le (by rw [hc.length]; exact Nat.le_refl _)] at h3
      refine ⟨D, ps.map fun c => ((c.depth : Nat) : Int), rfl, sq_of (by rw [h3, List.map_map]; rfl), ?_, fun m hm hx => ⟨1, m, rfl, rfl, ?_⟩⟩
      · rw [List.length_map]
        exact List.length_pos_iff.mpr hne
      · have e : m = (depths ps : Int) := by
          obtain ⟨c, hc, rfl⟩ := List.mem_map.mp hm
          obtain ⟨d, hd, e⟩ := depths_mem hne
          have h5 := hx _ (List.mem_map.mpr ⟨d, hd, rfl⟩)
          have h6 := depths_le hc
          omega
        rw [e]
        exact q _ h2
theorem ok_Circle_parts (T : Txt K mg AA) : PrM P w K mg base AA.Circle "parts" p_Circle_parts 1 (spParts AA.Circle) := by
  refine prm_mk T.t_Circle_parts sc_Circle_parts (fun vs H Q E h => ?_) (fun f cdv A outer s H vs Q E hr h => ?_)
  · obtain ⟨p, dx, lp, us, kind, name, s, d, t, rfl, _⟩ := h
    rfl
  · obtain ⟨p, dx, lp, us, kind, name, s, d, t, rfl, hp, hl, q⟩ := h
    refine ⟨_, (pss_one (ps_ret (pe_callTy call_list_of (by rfl) T.n_list PyProof.Rows.boot_list (pa_cons (pe_fldK (K := K) rfl (pv 0) rfl) pa_nil)))), ?_⟩
    refine ⟨_, rfl, p, AA.Circle, dx, _, _, rfl, hp, T.c_Circle, T.a_Circle_parts, fl_parts, lp, us, rfl, .inl (sq_of hl), fun l2 hl2 => ?_⟩
    exact q _ hl2
theorem ok_Circle___str (T : Txt K mg AA) : PrM P w K mg base AA.Circle "__str__" p_Circle___str 1 (spCi AA.Circle (fun c => c.str.length ≤ 90000) fun c => .str c.str) := by
  refine prm_mk T.t_Circle___str sc_Circle___str (fun vs H Q E h => ?_) (fun f cdv A outer s H vs Q E hr h => ?_)
  · obtain ⟨v, c, rfl, _⟩ := h
    rfl
  · obtain ⟨v, c, rfl, hc, hz, q⟩ := h
    refine ⟨_, (pss_one (ps_ret (pe_callTy SkE.call_str_str (by rfl) T.n_str PyProof.Rows.boot_str (pa_cons (pe_fldK (K := K) rfl (pv 0) rfl) pa_nil)))), ?_⟩
    obtain ⟨p, dx, l, us, rfl, hp, hl, hc⟩ := hc.at_
    exact ⟨_, rfl, p, AA.Circle, dx, _, _, rfl, hp, T.c_Circle, T.a_Circle_text, fl_text, _, rfl, q _ (Ex.refl _)⟩
end
end Eyes

set_option Elab.async false
set_option linter.all false
set_option maxRecDepth 100000
set_option maxHeartbeats 4000000
namespace Eyes
open PySem PySem.Spec PyProof.Rows L2 Evl TL
def inner (c : Ci) : Str := ⟨(wrapL c c.tx).toArray⟩
theorem kindS_eye (k : Bool) : kindS k ≠ "eye" := by cases k <;> decide +kernel
def spTextOf (K : PySem.W.Frag) (C : Addr) : Sp := fun vs H Q _ => ∃ (l : Addr) (us : List V) (k : Bool) (ps : List Ci), vs = [.str (kindS k), .ref l] ∧ SqL K H l us ∧ CisAt C H us ps ∧ us.length ≤ 900 ∧ (∀ c ∈ ps, c.str.length ≤ 900) ∧ ∀ H', Ex H H' → Q (.str (Ci.node k ps).str) H'
section
variable {P : Program} {w : World} {K : PySem.W.Frag} {mg : Str → Option Value} {base : Heap} {AA : Adr}
theorem ok_inner_text (T : Txt K mg AA) : Pr P w K mg base "inner_text" s_inner_text p_inner_text 2 (spCi AA.Circle (fun c => c.str.length ≤ 900) fun c => .str (inner c)) := by
  refine pr_mk T.f_inner_text sc_inner_text (fun vs H Q E h => ?_) (fun f cdv A outer s H vs Q E hr h => ?_)
  · obtain ⟨v, c, rfl, _⟩ := h
    rfl
  · obtain ⟨v, c, rfl, hc, hz, q⟩ := h
    refine ⟨_, (pss_cons (ps_if (pt_cmpR op_eq (pe_fldK (K := K) rfl (pv 0) rfl) pe_str (nomark _))
      (pss_one (ps_ret (pe_fldK (K := K) rfl (pv 0) rfl)))
      pss_nil)
      (pss_one (ps_ret (pe_joined (PJ.cons pe_str (PJ.cons (pe_fmtOwn (ok_Circle___str T) hr (pv 0)) (PJ.cons pe_str PJ.nil))))))), ?_⟩
    have hc0 := hc
    obtain ⟨p, dx, l, us, rfl, hp, hl, hcs⟩ := hc.at_
    refine ⟨_, rfl, p, AA.Circle, dx, _, _, rfl, hp, T.c_Circle, T.a_Circle_kind, fl_kind, ?_⟩
    refine ⟨rfl, _, rfl, ?_⟩
    cases c with
    | eye n =>
      refine iteT ?_
      refine ⟨_, rfl, p, AA.Circle, dx, _, _, rfl, hp, T.c_Circle, T.a_Circle_name, fl_name, ?_⟩
      have e : inner (.eye n) = n := ext_tl rfl
      have q2 := q _ (Ex.refl _)
      simp only [e] at q2
      exact q2
    | node k ps =>
      have e : decide ((V.str (kindS k)) = V.str "eye") = false := decide_eq_false fun h => kindS_eye k (V.str.inj h)
      have e2 : (decide ((V.str (Ci.node k ps).kind) = V.str (Str.ofString "eye"))) = false := e
      rw [e2]
      refine iteF ?_
      refine ⟨_, rfl, by decide +kernel, _, rfl, p, dx, _, rfl, hp, _, _, rfl, hc0, by omega, fun H' ex => ⟨_, rfl, sz_of (by omega), _, rfl, ?_, _, rfl, ?_, ?_⟩⟩
      · rw [len_tl, tl_append, List.length_append, ← len_tl, ← len_tl]
        have : (Str.empty ++ Str.ofString "(").length = 1 := by decide +kernel
        exact sz_of (by omega)
      · rw [len_tl, tl_append, tl_append, List.length_append, List.length_append, ← len_tl, ← len_tl, ← len_tl]
        have : (Str.empty ++ Str.ofString "(").length = 1 := by decide +kernel
        have : (Str.ofString ")").length = 1 := by decide +kernel
        exact sz_of (by omega)
      · have e : Str.empty ++ Str.ofString "(" ++ (Ci.node k ps).str ++ Str.ofString ")" = inner (.node k ps) := by
          refine ext_tl ?_
          rw [tl_append, tl_append, tl_str]
          show 40 :: ((Ci.node k ps).tx) ++ [41] = _
          rfl
        rw [e]
        exact q _ ex
theorem ok_text_of (T : Txt K mg AA) : Pr P w K mg base "text_of" s_text_of p_text_of 3 (spTextOf K AA.Circle) := by
  refine pr_mk T.f_text_of sc_text_of (fun vs H Q E h => ?_) (fun f cdv A outer s H vs Q E hr h => ?_)
  · obtain ⟨l, us, k, ps, rfl, _⟩ := h
    rfl
  · obtain ⟨l, us, k, ps, rfl, hl, hc, hn, hz, q⟩ := h
    refine ⟨_, (pss_cons (ps_setLc (i := 2) (own := [("part", 3)]) (g := gName 3) (tt := tYes) rfl sc_text_of.nd rfl rfl (sw_true rfl rfl rfl (by decide +kernel)) (pi_list (pv 1)) (blkOk_by (own := [("part", 3)]) (N := n_text_of) (sc := defScope s_text_of) (by decide +kernel)) (fun _ _ _ _ _ => (pg_name (i := 3) sc_text_of.nd rfl (.inl rfl))) (fun _ _ _ _ _ => pts_nil) (fun _ _ _ _ _ => (pcall (ok_inner_text T) hr (pa_cons (pv 3) pa_nil))))
      (pss_cons (ps_if (pt_cmpR op_eq (pv 0) pe_str (nomark _))
      (pss_one (ps_ret (pe_join pe_str (pv 2))))
      pss_nil)
      (pss_one (ps_ret (pe_join pe_str (pv 2)))))), ?_⟩
    refine ⟨_, rfl, l, rfl, ⟨us, hl⟩, fun D hD => lc_it (walk_list (xs := us)) (fun i H' => H D = none ∧ Ex H H' ∧ H' D = some (.lst ((ps.take i).map fun c => V.str (inner c)))) ⟨hD, Ex.new hD, upd_same⟩ (fun _ _ _ hp => ex_l hp.2.1 hl) (fun i v H3 H4 hi hp hy => ?_) (fun H' hp => ?_)⟩
    · obtain ⟨rfl, hv⟩ := hy
      obtain ⟨c, hg, hA⟩ := hc.get hv
      obtain ⟨h1, h2, h3⟩ := hp
      refine ⟨rfl, _, rfl, _, c, rfl, hA.mono h2, hz c (List.mem_of_getElem? hg), fun H' ex => ⟨_, ex _ _ h3, ?_, h1, (h2.trans ex).mut h1, ?_⟩⟩
      · rw [List.length_map, List.length_take]
        exact sz_lt (by omega)
      · rw [upd_same, List.take_add_one, hg, List.map_append]
        rfl
    · obtain ⟨h1, h2, h3⟩ := hp
      rw [List.take_of_length_le (by rw [hc.length]; exact Nat.le_refl _)] at h3
      have hj : ∀ S : Str, tl S = tl (sepS k) → Txt.join S (ps.map inner) = (Ci.node k ps).str := fun S hS => by
        refine ext_tl ?_
        rw [TL.join_eq, tl_join, List.map_map, hS]
        show joinL (tl (sepS k)) _ = joinL (tl (sepS k)) (inns ps)
        rw [inns_map]
        rfl
      have hd : H' D = some (.lst ((ps.map inner).map V.str)) := by
        rw [h3, List.map_map]
        rfl
      have hsum : ((ps.map inner).map (·.length)).sum + (ps.map inner).length * 3 ≤ 16777216 := by
        have h4 : ps.length ≤ 900 := by rw [← hc.length]; exact hn
        have h5 : ∀ qs : List Ci, (∀ c ∈ qs, c.str.length ≤ 900) → ((qs.map inner).map (·.length)).sum ≤ qs.length * 902 := by
          intro qs
          induction qs with
          | nil => intro _; simp
          | cons c r ih =>
            intro h
            have h6 := ih fun d hd => h d (List.mem_cons_of_mem _ hd)
            have h7 := h c List.mem_cons_self
            have h8 : (inner c).length ≤ c.str.length + 2 := by
              rw [len_tl, len_tl, tl_str]
              cases c with
              | eye n => exact Nat.le_add_right _ _
              | node k ps => show (40 :: (_ ++ [41])).length ≤ _; rw [List.length_cons, List.length_append]; exact Nat.le_refl _
            rw [List.map_cons, List.map_cons, List.sum_cons, List.length_cons, Nat.succ_mul]
            omega
        have h9 := h5 ps hz
        rw [List.length_map]
        have : ps.length * 902 ≤ 900 * 902 := Nat.mul_le_mul_right _ h4
        omega
      refine ⟨_, rfl, rfl, _, rfl, ?_⟩
      cases k with
      | true =>
        refine iteT ⟨⟨_, rfl⟩, _, rfl, _, D, ps.map inner, rfl, rfl, .inl (sq_of hd), hsum, ?_⟩
        show Q (V.str (Txt.join (Str.ofString " & ") (ps.map inner))) H'
        rw [hj (Str.ofString " & ") rfl]
        exact q _ h2
      | false =>
        refine iteF ⟨⟨_, rfl⟩, _, rfl, _, D, ps.map inner, rfl, rfl, .inl (sq_of hd), hsum, ?_⟩
        show Q (V.str (Txt.join (Str.ofString " | ") (ps.map inner))) H'
        rw [hj (Str.ofString " | ") rfl]
        exact q _ h2
end
end Eyes

set_option Elab.async false
set_option linter.all false
set_option maxRecDepth 100000
set_option maxHeartbeats 4000000
namespace Eyes
open PySem PySem.Spec PyProof.Rows L2 Evl TL
def SqLT (K : PySem.W.Frag) (H : Hp) (a : Addr) (xs : List V) : Prop := SqL K H a xs ∨ SqT K H a xs
theorem ex_lt {K : PySem.W.Frag} {H H' : Hp} {a : Addr} {xs : List V} (e : Ex H H') (h : SqLT K H a xs) : SqLT K H' a xs := h.imp (ex_l e) (ex_t e)
theorem for_lt {K : PySem.W.Frag} {j : Nat} {a : Addr} {xs : List V} {g : TG} {tb : TS} {D : Ends} {σ : L2.St} {H : Hp} (hj : σ[j]? = some (some (.ref a))) {G : Hp} (hx : SqLT K G a xs) (e0 : Ex G H) (Pv : Nat → L2.St → Hp → Prop) (h0 : Pv 0 σ H) (hl : ∀ i σ H', Pv i σ H' → Ex G H')
    (hs : ∀ i x σ H, xs[i]? = some x → Pv i σ H → g x σ H fun σ2 H2 => tb { D with nx := Pv (i + 1), ct := Pv (i + 1), bk := D.nx } σ2 H2) (hd : ∀ σ H, Pv xs.length σ H → D.nx σ H) {R : It → Hp → Prop}
    (hR : ∀ J H1, (∃ W : Nat → Nat → L2.St → Hp → Prop, (∃ m, W 0 m σ H1) ∧ ∀ i m σ H, W i m σ H →
      (J.stop i H ∧ D.nx σ H) ∨ (J.go i H ∧ ∃ N : L2.St → Hp → Prop, (∀ σ' H', N σ' H' → ∃ m', m' < m ∧ W (i + 1) m' σ' H') ∧ ∀ x H', J.yld i H x H' → g x σ H' fun σ2 H2 => tb { D with nx := N, ct := N, bk := D.nx } σ2 H2)) = R J H1) :
    iList K (tVar j) σ H R ∨ iTup K (tVar j) σ H R := by
  rcases hx with h | h
  · refine .inl ⟨_, hj, a, rfl, ⟨xs, ex_l e0 h⟩, ?_⟩
    rw [← hR]
    exact for_list Pv h0 (fun i σ H' _ p => ex_l (hl i σ H' p) h) hs hd
  · refine .inr ⟨_, hj, a, rfl, ⟨xs, ex_t e0 h⟩, ?_⟩
    rw [← hR]
    exact for_tup Pv h0 (fun i σ H' _ p => ex_t (hl i σ H' p) h) hs hd
def spFlat (K : PySem.W.Frag) (C : Addr) : Sp := fun vs H Q _ => ∃ (l : Addr) (us : List V) (k : Bool) (cs : List Ci), vs = [.str (kindS k), .ref l] ∧ SqLT K H l us ∧ CisAt C H us cs ∧ (flat k cs).length ≤ 90000 ∧ ∀ l2 ws H', H l2 = none → Ex H H' → H' l2 = some (.lst ws) → CisAt C H ws (flat k cs) → Q (.ref l2) H'
def spDd (K : PySem.W.Frag) (C : Addr) : Sp := fun vs H Q _ => ∃ (l : Addr) (us : List V) (cs : List Ci), vs = [.ref l] ∧ SqL K H l us ∧ CisAt C H us cs ∧ cs.length ≤ 90000 ∧ (∀ c ∈ cs, c.str.length ≤ 900) ∧ ∀ l2 ws H', H l2 = none → Ex H H' → H' l2 = some (.lst ws) → CisAt C H ws (dd [] cs) → Q (.ref l2) H'
section
variable {P : Program} {w : World} {K : PySem.W.Frag} {mg : Str → Option Value} {base : Heap} {AA : Adr}
theorem isK_kind {k : Bool} (c : Ci) : decide (V.str c.kind = V.str (kindS k)) = c.isK k := by
  cases c with
  | eye n => exact decide_eq_false fun h => kindS_eye k (V.str.inj h).symm
  | node j ps =>
    have h : ∀ j k : Bool, decide (V.str (kindS j) = V.str (kindS k)) = (j == k) := by decide +kernel
    exact h j k
theorem ok_flattened (T : Txt K mg AA) : Pr P w K mg base "flattened" s_flattened p_flattened 2 (spFlat K AA.Circle) := by
  refine pr_mk T.f_flattened sc_flattened (fun vs H Q E h => ?_) (fun f cdv A outer s H vs Q E hr h => ?_)
  · obtain ⟨l, us, k, cs, rfl, _⟩ := h
    rfl
  · obtain ⟨l, us, k, cs, rfl, hl, hc, hn, q⟩ := h
    refine ⟨_, (pss_cons (ps_set (i := 2) sc_flattened.nd rfl (.inl rfl) (pe_lst pa_nil))
      (pss_cons (ps_for PassesOwn.never rfl (pi_or (pi_list (pv 1)) (pi_tup (pv 1))) (pg_name (i := 3) sc_flattened.nd rfl (.inl rfl))
      (pss_one (ps_if (pt_cmpR op_eq (pe_fldK (K := K) rfl (pv 3) rfl) (pv 0) (nomark _))
      (pss_one (ps_expr (pe_bm PySem.F.plainAttrs_list PySem.F.slot_list_extend PySem.F.type_list_extend mt_extend (pv 2) (pa_cons (pmeth0 T.c_Circle (ok_Circle_parts T) hr (pv 3)) pa_nil))))
      (pss_one (ps_expr (pe_bm PySem.F.plainAttrs_list PySem.F.slot_list_append PySem.F.type_list_append mt_append (pv 2) (pa_cons (pv 3) pa_nil)))))))
      (pss_one (ps_ret (pv 2))))), ?_⟩
    refine ⟨by show 0 ≤ sizeLine; decide, fun fl hfl => ?_⟩
    refine for_lt (xs := us) rfl hl (Ex.new hfl) (fun i σ H' => ∃ (y : Option V) (ws : List V), σ = [some (.str (kindS k)), some (.ref l), some (.ref fl), y] ∧ Ex H H' ∧ H' fl = some (.lst ws) ∧ CisAt AA.Circle H ws (flat k (cs.take i))) ⟨none, [], rfl, Ex.new hfl, upd_same, .nil⟩ (fun i σ H' hp => ?_) (fun i x σ H' hx hp => ?_) (fun σ H' hp => ?_) (fun _ _ => rfl)
    · obtain ⟨y, ws, rfl, e1, h1, h2⟩ := hp
      exact e1
    · obtain ⟨y, ws, rfl, e1, h1, h2⟩ := hp
      obtain ⟨c, hg, hA⟩ := hc.get hx
      have hlen : ws.length + (if c.isK k = true then c.parts else [c]).length ≤ 90000 := by
        have h3 := flat_len_take k cs (i + 1)
        rw [List.take_add_one, hg, flat_append, List.length_append, ← h2.length] at h3
        have h4 : flat k (some c).toList = if c.isK k = true then c.parts else [c] := List.append_nil _
        rw [h4] at h3
        omega
      have hflat : flat k (cs.take (i + 1)) = flat k (cs.take i) ++ (if c.isK k = true then c.parts else [c]) := by
        rw [List.take_add_one, hg, flat_append]
        exact congrArg _ (List.append_nil _)
      obtain ⟨p, dx, lp, vs2, rfl, hp, hlp, hcs⟩ := hA.at_
      refine ⟨_, rfl, p, AA.Circle, dx, _, _, rfl, e1 _ _ hp, T.c_Circle, T.a_Circle_kind, fl_kind, _, rfl, rfl, _, rfl, ?_⟩
      show if decide (V.str c.kind = V.str (kindS k)) = true then _ else _
      rw [isK_kind]
      refine ite2 (fun hk => ?_) (fun hk => ?_)
      · rw [if_pos hk] at hlen hflat
        refine ⟨_, rfl, .inl ⟨rfl, ws, sq_of h1⟩, _, rfl, p, dx, _, rfl, e1 _ _ hp, fl_no (by decide +kernel) (by decide +kernel) (by decide +kernel) (by decide +kernel) (by decide +kernel) (by decide +kernel), p, dx, lp, vs2, _, _, _, _, _, rfl, e1 _ _ hp, e1 _ _ hlp, fun l2 hl2 => ?_⟩
        have hne : fl ≠ l2 := ne_of_none h1 hl2
        refine ⟨fl, l2, ws, vs2, rfl, rfl, (upd_ne hne).trans h1, upd_same, sz_of (by have := hcs.length; omega), _, ws ++ vs2, rfl, (e1.trans (Ex.new hl2)).mut hfl, upd_same, ?_⟩
        rw [hflat]
        exact h2.append hcs
      · rw [if_neg hk] at hlen hflat
        refine ⟨_, rfl, .inl ⟨rfl, ws, sq_of h1⟩, _, rfl, fl, ws, _, rfl, rfl, h1, sz_lt (by rw [List.length_singleton] at hlen; omega), _, _, rfl, e1.mut hfl, upd_same, ?_⟩
        rw [hflat]
        exact h2.append (.one hA)
    · obtain ⟨y, ws, rfl, e1, h1, h2⟩ := hp
      rw [List.take_of_length_le (by rw [hc.length]; exact Nat.le_refl _)] at h2
      exact ⟨_, rfl, q fl ws H' hfl e1 h1 h2⟩
theorem ok_without_repeats (T : Txt K mg AA) : Pr P w K mg base "without_repeats" s_without_repeats p_without_repeats 4 (spDd K AA.Circle) := by
  refine pr_mk T.f_without_repeats sc_without_repeats (fun vs H Q E h => ?_) (fun f cdv A outer s H vs Q E hr h => ?_)
  · obtain ⟨l, us, cs, rfl, _⟩ := h
    rfl
  · obtain ⟨l, us, cs, rfl, hl, hc, hn, hz, q⟩ := h
    refine ⟨_, (pss_cons (ps_set (i := 1) sc_without_repeats.nd rfl (.inl rfl) pe_dnewK)
      (pss_cons (ps_for PassesOwn.never rfl (pi_list (pv 0)) (pg_name (i := 2) sc_without_repeats.nd rfl (.inl rfl))
      (pss_cons (ps_set (i := 3) sc_without_repeats.nd rfl (.inl rfl) (pe_callTy (call_strOwn (ok_Circle___str T) hr) (by rfl) T.n_str PyProof.Rows.boot_str (pa_cons (pv 2) pa_nil)))
      (pss_one (ps_if (pt_cmp (pc_dnotin (hu_of hr) (pv 3) (pv 1)))
      (pss_one (ps_dput (hu_of hr) (pv 1) (pv 3) (pv 2) rfl))
      pss_nil))))
      (pss_one (ps_ret (pe_listVals rfl (pv 1) (by rfl) T.n_list))))), ?_⟩
    refine fun d hd => ?_
    refine ⟨_, rfl, l, rfl, ⟨us, ex_l (Ex.new hd) hl⟩, for_list (xs := us) (fun i σ H' => ∃ (y z : Option V) (kvs : List (Key × V)), σ = [some (.ref l), some (.ref d), y, z] ∧ Ex H H' ∧ H' d = some (.dK kvs) ∧ kvs.map (·.1) = (dd [] (cs.take i)).map (fun c => Sum.inr c.str) ∧ CisAt AA.Circle H (kvs.map (·.2)) (dd [] (cs.take i))) ⟨none, none, [], rfl, Ex.new hd, upd_same, rfl, .nil⟩ (fun i σ H' _ hp => ?_) (fun i x σ H' hx hp => ?_) (fun σ H' hp => ?_)⟩
    · obtain ⟨y, z, kvs, rfl, e1, h1, h2, h3⟩ := hp
      exact ex_l e1 hl
    · obtain ⟨y, z, kvs, rfl, e1, h1, h2, h3⟩ := hp
      obtain ⟨c, hg, hA⟩ := hc.get hx
      have hzc := hz c (List.mem_of_getElem? hg)
      have hany : (valV kvs (Sum.inr c.str)).isSome = (dd [] (cs.take i)).any (fun d => decide (d.str = c.str)) := by
        rw [← valV_any]
        have e : (kvs.any fun kv => decide (kv.1 = Sum.inr c.str)) = (kvs.map (·.1)).any fun k => decide (k = Sum.inr c.str) := by rw [List.any_map]; rfl
        rw [e, h2, List.any_map]
        refine congrArg (fun f => List.any _ f) (funext fun d => ?_)
        show decide ((Sum.inr d.str : Key) = Sum.inr c.str) = decide (d.str = c.str)
        by_cases h : d.str = c.str
        · rw [decide_eq_true h, h, decide_eq_true rfl]
        · rw [decide_eq_false h, decide_eq_false fun g => h (Sum.inr.inj g)]
      have hdd : dd [] (cs.take (i + 1)) = if (dd [] (cs.take i)).any (fun d => decide (d.str = c.str)) = true then dd [] (cs.take i) else dd [] (cs.take i) ++ [c] := by
        rw [List.take_add_one, hg]
        exact dd_snoc c [] _
      have hlen : kvs.length ≤ i := by
        have e := congrArg List.length h2
        rw [List.length_map, List.length_map] at e
        have := dd_len (acc := []) (cs := cs.take i)
        rw [List.length_take, List.length_nil] at this
        omega
      have hi : i < us.length := (List.getElem?_eq_some_iff.mp hx).1
      have hcl := hc.length
      obtain ⟨p, dx, lp, vs2, rfl, hp, hlp, hcs⟩ := hA.at_
      refine ⟨_, rfl, p, dx, _, rfl, e1 _ _ hp, _, c, rfl, hA.mono e1, by omega, fun H2 ex => ⟨_, rfl, _, rfl, _, rfl, d, _, rfl, .k (k := Sum.inr c.str) (ex _ _ h1), _, rfl, ?_⟩⟩
      rw [hany]
      refine ite2 (fun hb => ?_) (fun hb => ?_)
      · have hb : (dd [] (cs.take i)).any (fun d => decide (d.str = c.str)) = false := by
          cases g : (dd [] (cs.take i)).any (fun d => decide (d.str = c.str)) with
          | false => rfl
          | true => rw [g] at hb; cases hb
        have hv : valV kvs (Sum.inr c.str) = none := by
          rw [hb] at hany
          cases g : valV kvs (Sum.inr c.str) with
          | none => rfl
          | some v => rw [g] at hany; cases hany
        rw [hb, if_neg (by decide)] at hdd
        refine ⟨_, rfl, _, rfl, _, rfl, d, _, rfl, .k (k := Sum.inr c.str) (ex _ _ h1) (sz_lt (by omega)), _, _, _, rfl, (e1.trans ex).mut hd, upd_same, ?_, ?_⟩
        · rw [putK_new _ hv, List.map_append, h2, hdd, List.map_append]
          rfl
        · rw [putK_new _ hv, List.map_append, hdd]
          exact h3.append (.one hA)
      · have hb : (dd [] (cs.take i)).any (fun d => decide (d.str = c.str)) = true := by
          cases g : (dd [] (cs.take i)).any (fun d => decide (d.str = c.str)) with
          | true => rfl
          | false => rw [g] at hb; exact absurd rfl hb
        rw [if_pos hb] at hdd
        refine ⟨_, _, kvs, rfl, e1.trans ex, ex _ _ h1, ?_, ?_⟩
        · rw [hdd]
          exact h2
        · rw [hdd]
          exact h3
    · obtain ⟨y, z, kvs, rfl, e1, h1, h2, h3⟩ := hp
      rw [List.take_of_length_le (by rw [hc.length]; exact Nat.le_refl _)] at h3
      refine ⟨_, rfl, d, kvs, rfl, h1, fun l2 hl2 => ?_⟩
      exact q l2 _ _ (fresh_back e1 hl2) (e1.trans (Ex.new hl2)) upd_same h3
end
end Eyes

set_option Elab.async false
set_option linter.all false
set_option maxRecDepth 100000
set_option maxHeartbeats 4000000
namespace Eyes
open PySem PySem.Spec PyProof.Rows L2 Evl TL
def spInit (K : PySem.W.Frag) (C : Addr) : Sp := fun vs H Q _ => ∃ (x dx l : Addr) (us : List V) (c : Ci) (G : Hp), vs = [.ref x, .str c.kind, .str c.name, .ref l] ∧ G x = none ∧ Ex G H ∧ H x = some (.ins C dx []) ∧ SqL K G l us ∧ CisAt C G us c.parts ∧ us.length ≤ 900 ∧ (∀ d ∈ c.parts, d.str.length ≤ 900) ∧ (∀ k, c ≠ .node k []) ∧
  ∀ H', Ex G H' → CiAt C H' (.ref x) c → Q .non H'
theorem ex_both {G H : Hp} {p : Addr} {o : HO} (e : Ex G H) : Ex (upd G p o) (upd H p o) := fun a u h => by
  by_cases ha : a = p
  · subst ha
    rw [upd_same] at h ⊢
    exact h
  · rw [upd_ne ha] at h ⊢
    exact e a u h
section
variable {P : Program} {w : World} {K : PySem.W.Frag} {mg : Str → Option Value} {base : Heap} {AA : Adr}
theorem ok_Circle___init (T : Txt K mg AA) : PrI P w K mg base AA.Circle p_Circle___init 4 (spInit K AA.Circle) := by
  refine pri_mk T.i_Circle sc_Circle___init (fun vs H Q E h => ?_) (fun f cdv A outer s H vs Q E hr h => ?_)
  · obtain ⟨x, dx, l, us, c, G, rfl, _⟩ := h
    rfl
  · obtain ⟨x, dx, l, us, c, G, rfl, hG, ex, hx, hl, hc, hn, hz, hnk, q⟩ := h
    refine ⟨_, (pss_cons (ps_fld (pv 0) (pv 1) rfl)
      (pss_cons (ps_fld (pv 0) (pv 2) rfl)
      (pss_cons (ps_fld (pv 0) (pe_callTy call_list_of (by rfl) T.n_list PyProof.Rows.boot_list (pa_cons (pv 3) pa_nil)) rfl)
      (pss_one (ps_if (pt_cmpR op_eq (pv 1) pe_str (nomark _))
      (pss_cons (ps_fld (pv 0) pe_int rfl)
      (pss_cons (ps_fld (pv 0) pe_int rfl)
      (pss_one (ps_fld (pv 0) (pv 2) rfl))))
      (pss_cons (ps_fld (pv 0) (pcall (ok_size_of T) hr (pa_cons (pv 3) pa_nil)) rfl)
      (pss_cons (ps_fld (pv 0) (pcall (ok_depth_over T) hr (pa_cons (pv 3) pa_nil)) rfl)
      (pss_one (ps_fld (pv 0) (pcall (ok_text_of T) hr (pa_cons (pv 1) (pa_cons (pv 3) pa_nil))) rfl))))))))), ?_⟩
    -- kind, name
    refine ⟨_, rfl, _, rfl, x, AA.Circle, dx, _, rfl, hx, T.c_Circle, T.a_Circle_kind, by decide, ?_⟩
    refine ⟨_, rfl, _, rfl, x, AA.Circle, dx, _, rfl, upd_same, T.c_Circle, T.a_Circle_name, by show 1 < 1000; decide, ?_⟩
    have e1 := ex.mut (o := .ins AA.Circle dx (putF "kind" (.str c.kind) [])) hG
    have e2 := e1.mut (o := .ins AA.Circle dx (putF "name" (.str c.name) (putF "kind" (.str c.kind) []))) hG
    have hx2 : (upd (upd H x (.ins AA.Circle dx (putF "kind" (.str c.kind) []))) x (.ins AA.Circle dx (putF "name" (.str c.name) (putF "kind" (.str c.kind) [])))) x = some (.ins AA.Circle dx (putF "name" (.str c.name) (putF "kind" (.str c.kind) []))) := upd_same
    revert e2 hx2
    generalize (upd (upd H x (.ins AA.Circle dx (putF "kind" (.str c.kind) []))) x (.ins AA.Circle dx (putF "name" (.str c.name) (putF "kind" (.str c.kind) [])))) = H2
    intro e2 hx2
    refine ⟨_, rfl, l, us, rfl, .inl (ex_l e2 hl), fun l2 hl2 => ?_⟩
    have hne : x ≠ l2 := ne_of_none hx2 hl2
    have hxl : (upd H2 l2 (.lst us)) x = some (.ins AA.Circle dx (putF "name" (.str c.name) (putF "kind" (.str c.kind) []))) := (upd_ne hne).trans hx2
    have hG2 : (upd G l2 (.lst us)) x = none := (upd_ne hne).trans hG
    have e3 : Ex (upd G l2 (.lst us)) (upd H2 l2 (.lst us)) := ex_both e2
    have eG : Ex G (upd G l2 (.lst us)) := Ex.new (fresh_back e2 hl2)
    refine ⟨_, rfl, x, AA.Circle, dx, _, rfl, hxl, T.c_Circle, T.a_Circle_parts, by show 2 < 1000; decide, ?_⟩
    have e4 := e3.mut (o := .ins AA.Circle dx (putF "_parts" (.ref l2) (putF "name" (.str c.name) (putF "kind" (.str c.kind) [])))) hG2
    have hx4 : (upd (upd H2 l2 (.lst us)) x (.ins AA.Circle dx (putF "_parts" (.ref l2) (putF "name" (.str c.name) (putF "kind" (.str c.kind) []))))) x = some (.ins AA.Circle dx (putF "_parts" (.ref l2) (putF "name" (.str c.name) (putF "kind" (.str c.kind) [])))) := upd_same
    revert e4 hx4
    generalize (upd (upd H2 l2 (.lst us)) x (.ins AA.Circle dx (putF "_parts" (.ref l2) (putF "name" (.str c.name) (putF "kind" (.str c.kind) []))))) = H4
    intro e4 hx4
    generalize hG2e : upd G l2 (.lst us) = G2 at e3 e4 eG hG2
    have hl2G : G2 l2 = some (.lst us) := by rw [← hG2e]; exact upd_same
    refine ⟨_, rfl, rfl, _, rfl, ?_⟩
    have fin : ∀ H', Ex G2 H' → H' x = some (.ins AA.Circle dx (flds c.kind c.name l2 c.size c.depth c.str)) → Q .non H' := fun H' e h =>
      q H' (eG.trans e) (.mk rfl h (e _ _ hl2G) (hc.mono (eG.trans e)))
    cases c with
    | eye n =>
      refine iteT ?_
      refine ⟨_, rfl, x, AA.Circle, dx, _, rfl, hx4, T.c_Circle, T.a_Circle_size, by show 3 < 1000; decide, ?_⟩
      refine ⟨_, rfl, x, AA.Circle, dx, _, rfl, upd_same, T.c_Circle, T.a_Circle_depth, by show 4 < 1000; decide, ?_⟩
      refine ⟨_, rfl, _, rfl, x, AA.Circle, dx, _, rfl, upd_same, T.c_Circle, T.a_Circle_text, by show 5 < 1000; decide, ?_⟩
      refine fin _ (((e4.mut hG2).mut hG2).mut hG2) ?_
      rw [upd_same]
      rfl
    | node k ps =>
      have e : decide ((V.str (kindS k)) = V.str "eye") = false := decide_eq_false fun h => kindS_eye k (V.str.inj h)
      have e2 : (decide ((V.str (Ci.node k ps).kind) = V.str (Str.ofString "eye"))) = false := e
      rw [e2]
      refine iteF ?_
      have hc4 := hc.mono (eG.trans e4)
      have hne0 : ps ≠ [] := fun h => hnk k (by rw [h])
      refine ⟨_, rfl, l, us, ps, rfl, ex_l (eG.trans e4) hl, hc4, by omega, True.intro, fun H5 e5 => ⟨_, rfl, x, AA.Circle, dx, _, rfl, e5 _ _ hx4, T.c_Circle, T.a_Circle_size, by show 3 < 1000; decide, ?_⟩⟩
      have e6 := (e4.trans e5).mut (o := .ins AA.Circle dx (putF "size" (.int (sizes ps)) (putF "_parts" (.ref l2) (putF "name" (.str (Ci.node k ps).name) (putF "kind" (.str (Ci.node k ps).kind) []))))) hG2
      refine ⟨_, rfl, l, us, ps, rfl, ex_l (eG.trans e6) hl, hc.mono (eG.trans e6), by omega, hne0, fun H7 e7 => ⟨_, rfl, x, AA.Circle, dx, _, rfl, e7 _ _ upd_same, T.c_Circle, T.a_Circle_depth, by show 4 < 1000; decide, ?_⟩⟩
      have e8 := (e6.trans e7).mut (o := .ins AA.Circle dx (putF "depth" (.int (1 + (depths ps : Int))) (putF "size" (.int (sizes ps)) (putF "_parts" (.ref l2) (putF "name" (.str (Ci.node k ps).name) (putF "kind" (.str (Ci.node k ps).kind) [])))))) hG2
      refine ⟨_, rfl, _, rfl, l, us, k, ps, rfl, ex_l (eG.trans e8) hl, hc.mono (eG.trans e8), hn, hz, fun H9 e9 => ⟨_, rfl, x, AA.Circle, dx, _, rfl, e9 _ _ upd_same, T.c_Circle, T.a_Circle_text, by show 5 < 1000; decide, ?_⟩⟩
      refine fin _ ((e8.trans e9).mut hG2) ?_
      rw [upd_same]
      have hdep : ((Ci.node k ps).depth : Int) = 1 + (depths ps : Int) := by
        show ((1 + depths ps : Nat) : Int) = _
        omega
      rw [hdep]
      rfl
end
end Eyes

set_option Elab.async false
set_option linter.all false
set_option maxRecDepth 100000
set_option maxHeartbeats 4000000
namespace Eyes
open PySem PySem.Spec PyProof.Rows L2 Evl TL
theorem kit_self {K : PySem.W.Frag} {C : Addr} : PySem.W.kitOne K (.ref C) (.ref C) = some true := by
  unfold PySem.W.kitOne
  have e : (Value.ref C == Value.ref C) = true := by simp
  rw [e]
  rfl
def spBuilt (K : PySem.W.Frag) (C : Addr) : Sp := fun vs H Q _ => ∃ (l : Addr) (us : List V) (k : Bool) (cs : List Ci), vs = [.str (kindS k), .ref l] ∧ SqLT K H l us ∧ CisAt C H us cs ∧ Good k cs ∧ ∀ v H', Ex H H' → CiAt C H' v (mkC k cs) → Q v H'
def spSign (C : Addr) (k : Bool) : Sp := fun vs H Q _ => ∃ (x y : V) (c d : Ci), vs = [x, y] ∧ CiAt C H x c ∧ CiAt C H y d ∧ Good k [c, d] ∧ ∀ v H', Ex H H' → CiAt C H' v (mkC k [c, d]) → Q v H'
section
variable {P : Program} {w : World} {K : PySem.W.Frag} {mg : Str → Option Value} {base : Heap} {AA : Adr}
theorem ok_built (T : Txt K mg AA) : Pr P w K mg base "built" s_built p_built 6 (spBuilt K AA.Circle) := by
  refine pr_mk T.f_built sc_built (fun vs H Q E h => ?_) (fun f cdv A outer s H vs Q E hr h => ?_)
  · obtain ⟨l, us, k, cs, rfl, _⟩ := h
    rfl
  · obtain ⟨l, us, k, cs, rfl, hl, hc, g, q⟩ := h
    refine ⟨_, (pss_cons (ps_set (i := 2) sc_built.nd rfl (.inl rfl) (pcall (ok_without_repeats T) hr (pa_cons (pcall (ok_flattened T) hr (pa_cons (pv 0) (pa_cons (pv 1) pa_nil))) pa_nil)))
      (pss_cons (ps_if (pt_cmpR op_eq (pe_callB (call_len_seqK (K := K) rfl) (by rfl) T.n_len PySem.boot_len (pa_cons (pv 2) pa_nil)) pe_int (nomark _))
      (pss_one (ps_ret (pe_ix (ix_listK (K := K) rfl) (pv 2) pe_int (fun _ _ => rfl))))
      pss_nil)
      (pss_cons (ps_if (pt_cmpR op_gt (pcall (ok_size_of T) hr (pa_cons (pv 2) pa_nil)) (ClX.pe_cval (pe_glob (v := .ref AA.Circle) (by rfl) T.m_Circle rfl)) (nomark _))
      pss_never
      pss_nil)
      (pss_cons (ps_if (pt_cmpR op_gt (pcall (ok_depth_over T) hr (pa_cons (pv 2) pa_nil)) (pgI T.m_MOST_DEPTH) (nomark _))
      pss_never
      pss_nil)
      (pss_one (ps_ret (pmake T.m_Circle (ok_Circle___init T) hr (pa_cons (pv 0) (pa_cons pe_str (pa_cons (pv 2) pa_nil)))))))))), ?_⟩
    have hfl := g.flat_len
    refine ⟨_, rfl, _, rfl, l, us, k, cs, rfl, hl, hc, by omega, fun l2 ws H1 hl2 e1 h2 hc2 => ?_⟩
    refine ⟨l2, ws, flat k cs, rfl, sq_of h2, hc2.mono e1, by omega, fun c hc => by have := fine_len (flat_fine g.fine c hc); omega, fun l3 ws3 H3 hl3 e3 h3 hc3 => ?_⟩
    have e13 := e1.trans e3
    have hc3 := hc3.mono e3
    have hlen3 : ws3.length ≤ 84000 := by
      have h4 := hc3.length
      have h5 := dd_len (acc := []) (cs := flat k cs)
      rw [List.length_nil] at h5
      omega
    refine ⟨_, rfl, l3, ws3, rfl, .inl (sq_of h3), rfl, _, rfl, ?_⟩
    have hpl : ws3.length = (pts k cs).length := hc3.length
    have hp60 : (pts k cs).length ≠ 1 → (sizes (pts k cs) ≤ 60 ∧ depths (pts k cs) ≤ 19) := fun h => by
      have h1 := g.size
      have h2 := g.depth
      rw [mkC_more h] at h1 h2
      have h1 : sizes (pts k cs) ≤ 60 := h1
      have h2 : 1 + depths (pts k cs) ≤ 20 := h2
      omega
    refine ite2 (fun h => ?_) (fun h => ?_)
    · have h : (V.int (ws3.length : Nat)) = V.int 1 := of_decide_eq_true h
      have h : ((ws3.length : Nat) : Int) = 1 := V.int.inj h
      obtain ⟨c, hc1⟩ := List.length_eq_one_iff.mp (show (pts k cs).length = 1 by omega)
      obtain ⟨v, hv⟩ := List.length_eq_one_iff.mp (show ws3.length = 1 by omega)
      subst hv
      refine ⟨_, rfl, l3, [v], 0, v, rfl, rfl, sq_of h3, rfl, ?_⟩
      have hc4 : CisAt AA.Circle H3 [v] (pts k cs) := hc3
      rw [hc1] at hc4
      have hv : CiAt AA.Circle H3 v c := by
        cases hc4 with
        | cons h _ => exact h
      refine q v H3 e13 ?_
      rw [mkC_one hc1]
      exact hv
    · have h1 : (pts k cs).length ≠ 1 := fun z => h (decide_eq_true (by rw [hpl, z]; rfl))
      obtain ⟨hs60, hd19⟩ := hp60 h1
      have hne := g.pts_ne
      have hfine := g.pts_fine
      have hpn : (pts k cs).length ≤ 60 := Nat.le_trans (sizes_len _ (oks_mem.mpr fun c hc => (hfine c hc).1)) hs60
      refine ⟨_, rfl, l3, ws3, pts k cs, rfl, sq_of h3, hc3, by omega, True.intro, fun H4 e4 => ?_⟩
      obtain ⟨tk, hcr, hcv⟩ := T.k_Circle_LIMIT
      refine ⟨AA.Circle, _, _, _, rfl, hcr, hcv, _, _, rfl, rfl, _, rfl, ?_⟩
      have hf1 : decide ((60 : Int) < (sizes (pts k cs) : Int)) = false := decide_eq_false (by omega)
      rw [hf1]
      refine iteF ?_
      refine ⟨_, rfl, l3, ws3, pts k cs, rfl, sq_of (e4 _ _ h3), hc3.mono e4, by omega, hne, fun H5 e5 => ⟨_, _, rfl, rfl, _, rfl, ?_⟩⟩
      have hf2 : decide ((20 : Int) < 1 + (depths (pts k cs) : Int)) = false := decide_eq_false (by omega)
      rw [hf2]
      refine iteF ?_
      have e45 := e4.trans e5
      refine ⟨_, rfl, _, rfl, fun x dx hx hdx hne2 => ?_⟩
      have eX : Ex H5 (upd (upd H5 dx (.own x)) x (.ins AA.Circle dx [])) := (Ex.new hdx).trans (Ex.new ((upd_ne (Ne.symm hne2)).trans hx))
      refine ⟨x, dx, l3, ws3, .node k (pts k cs), H5, rfl, hx, eX, upd_same, sq_of (e45 _ _ h3), hc3.mono e45, by omega, fun c hc => by have := fine_len (hfine c hc); omega, fun j hj => hne (by injection hj), fun H6 e6 hA => ⟨rfl, ?_⟩⟩
      refine q _ H6 ((e13.trans e45).trans e6) ?_
      rw [mkC_more h1]
      exact hA
theorem ok_Circle___and (T : Txt K mg AA) : PrM P w K mg base AA.Circle "__and__" p_Circle___and 7 (spSign AA.Circle true) := by
  refine prm_mk T.t_Circle___and sc_Circle___and (fun vs H Q E h => ?_) (fun f cdv A outer s H vs Q E hr h => ?_)
  · obtain ⟨x, y, c, d, rfl, _⟩ := h
    rfl
  · obtain ⟨x, y, c, d, rfl, hx, hy, g, q⟩ := h
    refine ⟨_, (pss_cons (ps_if (pt_not (pt_val (pe_callB (call_isiK (K := K) rfl) (by rfl) T.n_isinstance PyProof.Rows.boot_isinstance (pa_cons (pv 1) (pa_cons (pe_glob (v := .ref AA.Circle) (by rfl) T.m_Circle rfl) pa_nil)))))
      pss_never
      pss_nil)
      (pss_one (ps_ret (pcall (ok_built T) hr (pa_cons pe_str (pa_cons (pe_lst (pa_cons (pv 0) (pa_cons (pv 1) pa_nil))) pa_nil)))))), ?_⟩
    obtain ⟨p, dx, lp, vs2, rfl, hp, hlp, hcs⟩ := hy.at_
    refine ⟨_, rfl, _, _, _, _, _, rfl, .own _, .base (.ins hp T.c_Circle T.y_Circle.ty1 T.y_Circle.ty2 T.y_Circle.ty3 T.y_Circle.ty4), kit_self, _, rfl, ?_⟩
    refine iteF ?_
    refine ⟨_, rfl, _, rfl, by show 2 ≤ sizeLine; decide, fun l hl => ⟨l, _, true, [c, d], rfl, .inl (sq_of upd_same), (CisAt.cons hx (.one hy)).mono (Ex.new hl), g, fun v H' e hv => q v H' ((Ex.new hl).trans e) hv⟩⟩
theorem ok_Circle___or (T : Txt K mg AA) : PrM P w K mg base AA.Circle "__or__" p_Circle___or 7 (spSign AA.Circle false) := by
  refine prm_mk T.t_Circle___or sc_Circle___or (fun vs H Q E h => ?_) (fun f cdv A outer s H vs Q E hr h => ?_)
  · obtain ⟨x, y, c, d, rfl, _⟩ := h
    rfl
  · obtain ⟨x, y, c, d, rfl, hx, hy, g, q⟩ := h
    refine ⟨_, (pss_cons (ps_if (pt_not (pt_val (pe_callB (call_isiK (K := K) rfl) (by rfl) T.n_isinstance PyProof.Rows.boot_isinstance (pa_cons (pv 1) (pa_cons (pe_glob (v := .ref AA.Circle) (by rfl) T.m_Circle rfl) pa_nil)))))
      pss_never
      pss_nil)
      (pss_one (ps_ret (pcall (ok_built T) hr (pa_cons pe_str (pa_cons (pe_lst (pa_cons (pv 0) (pa_cons (pv 1) pa_nil))) pa_nil)))))), ?_⟩
    obtain ⟨p, dx, lp, vs2, rfl, hp, hlp, hcs⟩ := hy.at_
    refine ⟨_, rfl, _, _, _, _, _, rfl, .own _, .base (.ins hp T.c_Circle T.y_Circle.ty1 T.y_Circle.ty2 T.y_Circle.ty3 T.y_Circle.ty4), kit_self, _, rfl, ?_⟩
    refine iteF ?_
    refine ⟨_, rfl, _, rfl, by show 2 ≤ sizeLine; decide, fun l hl => ⟨l, _, false, [c, d], rfl, .inl (sq_of upd_same), (CisAt.cons hx (.one hy)).mono (Ex.new hl), g, fun v H' e hv => q v H' ((Ex.new hl).trans e) hv⟩⟩
end
end Eyes

set_option Elab.async false
set_option linter.all false
set_option maxRecDepth 100000
set_option maxHeartbeats 4000000
namespace Eyes
open PySem PySem.Spec PyProof.Rows L2 Evl TL
theorem Rep.node {H : Hp} {v : V} {c : Ci} (h : Rep H v c.data) : ∃ (a : Addr) (x : V), v = .ref a ∧ H a = some (.tup [.str c.kind, x]) ∧ (∀ n, c = .eye n → x = .str n) ∧ (∀ k ps, c = .node k ps → ∃ b ws, x = .ref b ∧ H b = some (.tup ws) ∧ Reps H ws (datas ps)) := by
  cases c with
  | eye n =>
    have h : Rep H v (.tuple [.str "eye", .str n]) := h
    cases h with
    | tup h r =>
      cases r with
      | cons h1 r =>
        cases r with
        | cons h2 r =>
          cases r
          cases h1
          cases h2
          exact ⟨_, _, rfl, h, fun m e => (by injection e with e; rw [e]), fun k ps e => (by cases e)⟩
  | node k ps =>
    have h : Rep H v (.tuple [.str (kindS k), .tuple (datas ps)]) := h
    cases h with
    | tup h r =>
      cases r with
      | cons h1 r =>
        cases r with
        | cons h2 r =>
          cases r
          cases h1
          cases h2 with
          | tup h3 r3 => exact ⟨_, _, rfl, h, fun m e => (by cases e), fun j qs e => (by injection e with e1 e2; rw [← e2]; exact ⟨_, _, rfl, h3, r3⟩)⟩
theorem Reps.getC {H : Hp} {us : List V} {cs : List Ci} {i : Nat} {v : V} (h : Reps H us (datas cs)) (hv : us[i]? = some v) : ∃ c, cs[i]? = some c ∧ Rep H v c.data := by
  obtain ⟨d, h1, h2⟩ := h.get hv
  rw [datas_map, List.getElem?_map] at h1
  obtain ⟨c, hc, rfl⟩ := Option.map_eq_some_iff.mp h1
  exact ⟨c, hc, h2⟩
theorem Reps.lengthC {H : Hp} {us : List V} {cs : List Ci} (h : Reps H us (datas cs)) : us.length = cs.length := by
  rw [h.length, datas_map, List.length_map]
theorem datas_append (a b : List Ci) : datas (a ++ b) = datas a ++ datas b := by rw [datas_map, datas_map, datas_map, List.map_append]
theorem Reps.append {H : Hp} : ∀ {us ws : List V} {cs ds : List PyData}, Reps H us cs → Reps H ws ds → Reps H (us ++ ws) (cs ++ ds)
  | _, _, _, _, .nil, s => s
  | _, _, _, _, .cons h r, s => .cons h (Reps.append r s)
mutual
theorem Rep.dp {K : PySem.W.Frag} {H : Hp} : ∀ {v : V} {d : PyData}, Rep H v d → Dp K H v d
  | _, _, .non => .non
  | _, _, .bl b => .bl b
  | _, _, .int i => .int i
  | _, _, .str x => .str x
  | _, _, .lst h r => .lst (sq_of h) (Reps.dp r)
  | _, _, .tup h r => .tup (st_of h) (Reps.dp r)
theorem Reps.dp {K : PySem.W.Frag} {H : Hp} : ∀ {v : List V} {d : List PyData}, Reps H v d → DpAll K H v d
  | _, _, .nil => .nil
  | _, _, .cons h r => .cons (Rep.dp h) (Reps.dp r)
end
section
variable {P : Program} {w : World} {K : PySem.W.Frag} {mg : Str → Option Value} {base : Heap} {AA : Adr}
def spJoin (K : PySem.W.Frag) : Sp := fun vs H Q _ => ∃ (l : Addr) (us : List V) (k : Bool) (cs : List Ci), vs = [.str (kindS k), .ref l] ∧ SqL K H l us ∧ Reps H us (datas cs) ∧ (∀ c ∈ cs, c.ok) ∧ (∀ c ∈ cs, c.depth ≤ 25) ∧ (flat k cs).length ≤ 90000 ∧ ∀ v H', Ex H H' → Rep H' v (mkC k cs).data → Q v H'
theorem ok_law_join (T : Txt K mg AA) : Pr P w K mg base "_law_join" s_law_join p_law_join 1 (spJoin K) := by
  refine pr_mk T.f_law_join sc_law_join (fun vs H Q E h => ?_) (fun f cdv A outer s H vs Q E hr h => ?_)
  · obtain ⟨l, us, k, cs, rfl, _⟩ := h
    rfl
  · obtain ⟨l, us, k, cs, rfl, hl, hc, hok, hdep, hn, q⟩ := h
    refine ⟨_, (pss_cons (ps_par (i := 2) (j := 3) rfl sc_law_join.nd rfl rfl (by decide) rfl rfl (pa_cons (pe_lst pa_nil) (pa_cons (pe_lst pa_nil) pa_nil)) rfl)
      (Evl.pss_cut (ps_for PassesOwn.never rfl (pi_list (pv 1)) (pg_name (i := 4) sc_law_join.nd rfl (.inl rfl))
      (pss_one (ps_set (i := 2) sc_law_join.nd rfl (.inl rfl) (pe_op op_cat (pv 2) (pe_ifExp (pt_cmpR op_eq (pe_ix (ix_tupK (K := K) rfl) (pv 4) pe_int (fun _ _ => rfl)) (pv 0) (nomark _)) (pe_callTy call_list_of (by rfl) T.n_list PyProof.Rows.boot_list (pa_cons (pe_ix (ix_tupK (K := K) rfl) (pv 4) pe_int (fun _ _ => rfl)) pa_nil)) (pe_lst (pa_cons (pv 4) pa_nil)))))))
      (pss_cons (ps_for PassesOwn.never rfl (pi_list (pv 2)) (pg_name (i := 4) sc_law_join.nd rfl (.inl rfl))
      (pss_one (ps_if (pt_cmpR (op_notInD (u65 hr)) (pv 4) (pv 3) (by rfl))
      (pss_one (ps_expr (pe_bm PySem.F.plainAttrs_list PySem.F.slot_list_append PySem.F.type_list_append mt_append (pv 3) (pa_cons (pv 4) pa_nil))))
      pss_nil)))
      (pss_one (ps_ret (pe_ifExp (pt_cmpR op_eq (pe_callB (call_len_seqK (K := K) rfl) (by rfl) T.n_len PySem.boot_len (pa_cons (pv 3) pa_nil)) pe_int (nomark _)) (pe_ix (ix_listK (K := K) rfl) (pv 3) pe_int (fun _ _ => rfl)) (pe_tup (pa_cons (pv 0) (pa_cons (pe_callTy call_tuple_of (by rfl) T.n_tuple PyProof.Rows.boot_tuple (pa_cons (pv 3) pa_nil)) pa_nil))))))))), ?_⟩
    refine ⟨by show 0 ≤ sizeLine; decide, fun fl hfl => ⟨by show 0 ≤ sizeLine; decide, fun fo hfo => ?_⟩⟩
    have hfoH : H fo = none := fresh_back (Ex.new hfl) hfo
    have e0 : Ex H (upd (upd H fl (.lst [])) fo (.lst [])) := (Ex.new hfl).trans (Ex.new hfo)
    refine ⟨_, _, rfl, ?_⟩
    refine ⟨fun σ H' => ∃ (y : Option V) (fl : Addr) (ws : List V), σ = [some (.str (kindS k)), some (.ref l), some (.ref fl), some (.ref fo), y] ∧ Ex H H' ∧ fl ≠ fo ∧ H' fl = some (.lst ws) ∧ H' fo = some (.lst []) ∧ Reps H ws (datas (flat k cs)), ?_, fun σ H1 hM => ?_⟩
    · refine ⟨_, rfl, l, rfl, ⟨us, ex_l e0 hl⟩, for_list (xs := us) (fun i σ H' => ∃ (y : Option V) (fl : Addr) (ws : List V), σ = [some (.str (kindS k)), some (.ref l), some (.ref fl), some (.ref fo), y] ∧ Ex H H' ∧ fl ≠ fo ∧ H' fl = some (.lst ws) ∧ H' fo = some (.lst []) ∧ Reps H ws (datas (flat k (cs.take i)))) ⟨none, fl, [], rfl, e0, ne_of_none upd_same hfo, ?_, upd_same, .nil⟩ (fun i σ H' _ hp => ?_) (fun i x σ H' hx hp => ?_) (fun σ H' hp => ?_)⟩
      · rw [upd_ne (ne_of_none upd_same hfo), upd_same]
      · obtain ⟨y, fl, ws, rfl, e1, hne, h1, h2, h3⟩ := hp
        exact ex_l e1 hl
      · obtain ⟨y, fl, ws, rfl, e1, hne, h1, h2, h3⟩ := hp
        obtain ⟨c, hg, hA⟩ := hc.getC hx
        obtain ⟨a, x2, rfl, ha, hx1, hx2⟩ := hA.node
        have hflat : flat k (cs.take (i + 1)) = flat k (cs.take i) ++ (if c.isK k = true then c.parts else [c]) := by
          rw [List.take_add_one, hg, flat_append]
          exact congrArg _ (List.append_nil _)
        have hlen := flat_len_take k cs (i + 1)
        rw [hflat, List.length_append, ← h3.lengthC] at hlen
        refine ⟨_, rfl, _, rfl, a, _, 0, _, rfl, rfl, st_of (e1 _ _ ha), rfl, _, rfl, rfl, _, rfl, ?_⟩
        show if decide (V.str c.kind = V.str (kindS k)) = true then _ else _
        rw [isK_kind]
        refine ite2 (fun hk => ?_) (fun hk => ?_)
        · rw [if_pos hk] at hflat hlen
          cases c with
          | eye n => cases hk
          | node j ps =>
            obtain ⟨b, ws2, rfl, hb, hr2⟩ := hx2 j ps rfl
            have hlp : ws2.length = ps.length := hr2.lengthC
            refine ⟨_, rfl, a, _, 1, _, rfl, rfl, st_of (e1 _ _ ha), rfl, b, ws2, rfl, .inr (st_of (e1 _ _ hb)), fun l2 hl2 => ?_⟩
            have h1' : (upd H' l2 (.lst ws2)) fl = some (.lst ws) := (upd_ne (ne_of_none h1 hl2)).trans h1
            refine ⟨fl, l2, ws, ws2, rfl, rfl, h1', upd_same, sz_of (by have : (Ci.node j ps).parts.length = ps.length := rfl; omega), fun p hp => ?_⟩
            refine ⟨_, p, _, rfl, (e1.trans (Ex.new hl2)).trans (Ex.new hp), ?_, upd_same, ?_, ?_⟩
            · intro e
              rw [e, upd_ne (ne_of_none h2 hl2), h2] at hp
              cases hp
            · rw [upd_ne (ne_of_none ((upd_ne (ne_of_none h2 hl2)).trans h2) hp), upd_ne (ne_of_none h2 hl2)]
              exact h2
            · rw [hflat, datas_append]
              exact h3.append hr2
        · rw [if_neg hk] at hflat hlen
          refine ⟨_, rfl, by show 1 ≤ sizeLine; decide, fun l2 hl2 => ?_⟩
          have h1' : (upd H' l2 (.lst [.ref a])) fl = some (.lst ws) := (upd_ne (ne_of_none h1 hl2)).trans h1
          refine ⟨fl, l2, ws, [.ref a], rfl, rfl, h1', upd_same, sz_of (by have : ([c] : List Ci).length = 1 := rfl; have : ([V.ref a] : List V).length = 1 := rfl; omega), fun p hp => ?_⟩
          refine ⟨_, p, _, rfl, (e1.trans (Ex.new hl2)).trans (Ex.new hp), ?_, upd_same, ?_, ?_⟩
          · intro e
            rw [e, upd_ne (ne_of_none h2 hl2), h2] at hp
            cases hp
          · rw [upd_ne (ne_of_none ((upd_ne (ne_of_none h2 hl2)).trans h2) hp), upd_ne (ne_of_none h2 hl2)]
            exact h2
          · rw [hflat, datas_append]
            exact h3.append (.cons hA .nil)
      · obtain ⟨y, fl, ws, rfl, e1, hne, h1, h2, h3⟩ := hp
        rw [List.take_of_length_le (by rw [hc.lengthC]; exact Nat.le_refl _)] at h3
        exact ⟨y, fl, ws, rfl, e1, hne, h1, h2, h3⟩
    · obtain ⟨y, fl, ws, rfl, e1, hne, h1, h2, h3⟩ := hM
      have hfok := flat_ok (k := k) hok
      have hfdp := flat_deep (k := k) hdep
      refine ⟨_, rfl, fl, rfl, ⟨ws, sq_of h1⟩, for_list (xs := ws) (fun i σ H' => ∃ (y : Option V) (xs : List V), σ = [some (.str (kindS k)), some (.ref l), some (.ref fl), some (.ref fo), y] ∧ Ex H H' ∧ H' fl = some (.lst ws) ∧ H' fo = some (.lst xs) ∧ Reps H xs (datas (dd [] ((flat k cs).take i)))) ⟨y, [], rfl, e1, h1, h2, .nil⟩ (fun i σ H' _ hp => ?_) (fun i x σ H' hx hp => ?_) (fun σ H' hp => ?_)⟩
      · obtain ⟨y, xs, rfl, e1, h1, h2, h4⟩ := hp
        exact sq_of h1
      · obtain ⟨y, xs, rfl, e1, h1, h2, h4⟩ := hp
        obtain ⟨c, hg, hA⟩ := h3.getC hx
        have hcm := List.mem_of_getElem? hg
        have hsub : ∀ d ∈ dd [] ((flat k cs).take i), d ∈ flat k cs := fun d hd => by
          rcases dd_sub hd with h | h
          · cases h
          · exact List.mem_of_mem_take h
        have hany := any_eqv (acc := dd [] ((flat k cs).take i)) (c := c) (fun d hd => hfok d (hsub d hd)) (hfok c hcm)
        have hdd : dd [] ((flat k cs).take (i + 1)) = if (dd [] ((flat k cs).take i)).any (fun d => decide (d.str = c.str)) = true then dd [] ((flat k cs).take i) else dd [] ((flat k cs).take i) ++ [c] := by
          rw [List.take_add_one, hg]
          exact dd_snoc c [] _
        have hlen : xs.length ≤ i := by
          rw [h4.lengthC]
          have := dd_len (acc := []) (cs := (flat k cs).take i)
          rw [List.length_take, List.length_nil] at this
          omega
        have hi : i < ws.length := (List.getElem?_eq_some_iff.mp hx).1
        have hwl := h3.lengthC
        refine ⟨_, rfl, _, rfl, c.data, datas (dd [] ((flat k cs).take i)), (hA.mono e1).dp, .lst (sq_of h2) (h4.mono e1).dp, shaped_data (hfok c hcm) (hfdp c hcm), shaped_datas (fun d hd => hfok d (hsub d hd)) (fun d hd => hfdp d (hsub d hd)), _, rfl, ?_⟩
        rw [hany]
        refine ite2 (fun hb => ?_) (fun hb => ?_)
        · have hb : (dd [] ((flat k cs).take i)).any (fun d => decide (d.str = c.str)) = false := by
            cases g : (dd [] ((flat k cs).take i)).any (fun d => decide (d.str = c.str)) with
            | false => rfl
            | true => rw [g] at hb; cases hb
          rw [hb, if_neg (by decide)] at hdd
          refine ⟨_, rfl, .inl ⟨rfl, xs, sq_of h2⟩, _, rfl, fo, xs, _, rfl, rfl, h2, sz_lt (by omega), _, _, rfl, e1.mut hfoH, (upd_ne hne).trans h1, upd_same, ?_⟩
          rw [hdd, datas_append]
          exact h4.append (.cons hA .nil)
        · have hb : (dd [] ((flat k cs).take i)).any (fun d => decide (d.str = c.str)) = true := by
            cases g : (dd [] ((flat k cs).take i)).any (fun d => decide (d.str = c.str)) with
            | true => rfl
            | false => rw [g] at hb; exact absurd rfl hb
          rw [if_pos hb] at hdd
          refine ⟨_, xs, rfl, e1, h1, h2, ?_⟩
          rw [hdd]
          exact h4
      · obtain ⟨y, xs, rfl, e1, h1, h2, h4⟩ := hp
        rw [List.take_of_length_le (by rw [h3.lengthC]; exact Nat.le_refl _)] at h4
        have h4 : Reps H xs (datas (pts k cs)) := h4
        have hxl := h4.lengthC
        refine ⟨_, rfl, fo, xs, rfl, .inl (sq_of h2), rfl, _, rfl, ?_⟩
        refine ite2 (fun h => ?_) (fun h => ?_)
        · have h : (V.int (xs.length : Nat)) = V.int 1 := of_decide_eq_true h
          have h : ((xs.length : Nat) : Int) = 1 := V.int.inj h
          obtain ⟨c, hc1⟩ := List.length_eq_one_iff.mp (show (pts k cs).length = 1 by omega)
          obtain ⟨v, hv⟩ := List.length_eq_one_iff.mp (show xs.length = 1 by omega)
          subst hv
          refine ⟨_, rfl, fo, [v], 0, v, rfl, rfl, sq_of h2, rfl, ?_⟩
          rw [hc1] at h4
          cases h4 with
          | cons hv _ =>
            refine q v H' e1 ?_
            rw [mkC_one hc1]
            exact hv.mono e1
        · have hp1 : (pts k cs).length ≠ 1 := fun z => h (decide_eq_true (by rw [hxl, z]; rfl))
          refine ⟨_, rfl, _, rfl, fo, xs, rfl, .inl ⟨sq_of h2, fun p hp => ⟨by show 2 ≤ sizeLine; decide, fun p2 hp2 => ?_⟩⟩⟩
          refine q _ _ ((e1.trans (Ex.new hp)).trans (Ex.new hp2)) ?_
          rw [mkC_more hp1]
          have h5 : Reps (upd (upd H' p (.tup xs)) p2 (.tup [.str (kindS k), .ref p])) xs (datas (pts k cs)) := h4.mono ((e1.trans (Ex.new hp)).trans (Ex.new hp2))
          exact .tup upd_same (.cons (.str _) (.cons (.tup (Ex.new hp2 _ _ upd_same) h5) .nil))
end
end Eyes

set_option Elab.async false
set_option linter.all false
set_option maxRecDepth 100000
set_option maxHeartbeats 4000000
namespace Eyes
open PySem PySem.Spec PyProof.Rows L2 Evl

abbrev letters : Str := "abcdefghijklmnopqrstuvwxyz"
/-! ### values of all kinds -/
inductive Tk where
  | s (z : Str) | i (n : Int) | b (c : Bool) | o
def okS (z : Str) : Prop := z.length ≤ 1000 ∧ ∀ c ∈ z.cps.toList, c < 128
def Knd (K : PySem.W.Frag) (H : Hp) (v : V) : Tk → Prop
  | .s z => v = .str z ∧ okS z
  | .i n => v = .int n
  | .b c => v = .bl c
  | .o => ∃ t, TyX K H v t ∧ PySem.W.kitOne K t (.type "str") = some false ∧ PySem.W.kitOne K t (.type "int") = some false ∧ PySem.W.kitOne K t (.type "bool") = some false
theorem TyX.mono {K : PySem.W.Frag} {H H' : Hp} {v : V} {t : Value} (e : Ex H H') (h : TyX K H v t) : TyX K H' v t := by
  cases h with
  | base h =>
    cases h with
    | non => exact .base .non
    | bl b => exact .base (.bl b)
    | int b => exact .base (.int b)
    | str b => exact .base (.str b)
    | flt b => exact .base (.flt b)
    | lst h => exact .base (.lst (e _ _ h))
    | frz h => exact .base (.frz (e _ _ h))
    | tup h => exact .base (.tup (e _ _ h))
    | dK h => exact .base (.dK (e _ _ h))
    | dT h => exact .base (.dT (e _ _ h))
    | ins h h1 h2 h3 h4 h5 => exact .base (.ins (e _ _ h) h1 h2 h3 h4 h5)
  | byt b => exact .byt b
  | set h => exact .set (e _ _ h)
  | kList h c => exact .kList h c
  | kTuple h c => exact .kTuple h c
  | kDict h c => exact .kDict h c
  | fTuple h => exact .fTuple (e _ _ h)
  | fDict h => exact .fDict (e _ _ h)
theorem Knd.mono {K : PySem.W.Frag} {H H' : Hp} {v : V} {k : Tk} (e : Ex H H') (h : Knd K H v k) : Knd K H' v k := by
  cases k with
  | s z => exact h
  | i n => exact h
  | b c => exact h
  | o => obtain ⟨t, h1, h2⟩ := h; exact ⟨t, TyX.mono e h1, h2⟩
def isS : Tk → Bool | .s _ => true | _ => false
def isI : Tk → Bool | .i _ => true | .b _ => true | _ => false
def isB : Tk → Bool | .b _ => true | _ => false
theorem Knd.ty {K : PySem.W.Frag} {H : Hp} {v : V} {k : Tk} (h : Knd K H v k) : ∃ t, TyX K H v t ∧ PySem.W.kitOne K t (.type "str") = some (isS k) ∧ PySem.W.kitOne K t (.type "int") = some (isI k) ∧ PySem.W.kitOne K t (.type "bool") = some (isB k) := by
  cases k with
  | s z => obtain ⟨rfl, _⟩ := h; exact ⟨_, .base (.str z), kit_ty (r := true) (by decide +kernel), kit_ty (r := false) (by decide +kernel), kit_ty (r := false) (by decide +kernel)⟩
  | i n => cases h; exact ⟨_, .base (.int n), kit_ty (r := false) (by decide +kernel), kit_ty (r := true) (by decide +kernel), kit_ty (r := false) (by decide +kernel)⟩
  | b c => cases h; exact ⟨_, .base (.bl c), kit_ty (r := false) (by decide +kernel), kit_ty (r := true) (by decide +kernel), kit_ty (r := true) (by decide +kernel)⟩
  | o => exact h
def nameS (z : Str) : Bool := decide (1 ≤ z.length) && decide (z.length ≤ 6) && z.cps.toList.all fun c => decide (c ∈ letters.cps.toList)
def nameK : Tk → Bool | .s z => nameS z | _ => false
def numK (lo hi : Int) : Tk → Bool | .i n => decide (lo ≤ n) && decide (n ≤ hi) | _ => false
def spName (K : PySem.W.Frag) : Sp := fun vs H Q _ => ∃ (v : V) (k : Tk), vs = [v] ∧ Knd K H v k ∧ ∀ H', Ex H H' → Q (.bl (nameK k)) H'
def spNum (K : PySem.W.Frag) : Sp := fun vs H Q _ => ∃ (v : V) (k : Tk) (lo hi : Int), vs = [v, .int lo, .int hi] ∧ Knd K H v k ∧ Q (.bl (numK lo hi k)) H
section
variable {P : Program} {w : World} {K : PySem.W.Frag} {mg : Str → Option Value} {base : Heap} {AA : Adr}
theorem ok_is_name (T : Txt K mg AA) : Pr P w K mg base "is_name" s_is_name p_is_name 1 (spName K) := by
  refine pr_mk T.f_is_name sc_is_name (fun vs H Q E h => ?_) (fun f cdv A outer s H vs Q E hr h => ?_)
  · obtain ⟨v, k, rfl, _⟩ := h
    rfl
  · obtain ⟨v, k, rfl, hk, q⟩ := h
    obtain ⟨t, ht, hs, hi, hb⟩ := hk.ty
    refine ⟨_, (pss_cons (ps_if (PW.pt (pw_or (pt_not (pt_val (pe_callB (call_isiK (K := K) rfl) (by rfl) T.n_isinstance PyProof.Rows.boot_isinstance (pa_cons (pv 0) (pa_cons (pe_bltn (v := .ty "str") (by rfl) T.n_str (by decide +kernel) rfl) pa_nil))))) (pw_or1 (pt_not (pt_chain op_le op_le pe_int (pe_callB call_len_str (by rfl) T.n_len PySem.boot_len (pa_cons (pv 0) pa_nil)) (pgI T.m_MOST_LETTERS))))))
      (pss_one (ps_ret pe_bl))
      pss_nil)
      (pss_one (ps_ret (pe_callB (cr_all rfl) (by rfl) T.n_all PyProof.Rows.boot_all (pa_cons (pe_lc (own := [("letter", 1)]) (g := gName 1) (tt := tYes) rfl sc_is_name.nd (pi_str (pv 0)) (blkOk_by (own := [("letter", 1)]) (N := n_is_name) (sc := defScope s_is_name) (by decide +kernel)) (fun _ _ _ _ _ => (pg_name (i := 1) sc_is_name.nd rfl (.inl rfl))) (fun _ _ _ _ _ => pts_nil) (fun _ _ _ _ _ => (pe_cmpR op_in_sign (pv 1) (pgS T.m_LETTERS) rfl))) pa_nil))))), ?_⟩
    refine ⟨_, rfl, v, .ty "str", _, _, _, rfl, .ty _, ht, hs, _, rfl, ?_⟩
    cases k with
    | s z =>
      obtain ⟨rfl, hz, hz2⟩ := hk
      refine iteF ?_
      -- 1 <= len(value) <= MOST_LETTERS
      refine ⟨_, rfl, z, rfl, sz_of (by omega), 1, z.length, rfl, rfl, _, rfl, ite2 (fun h1 => ?_) (fun h1 => ?_)⟩
      · refine ⟨z.length, 6, rfl, rfl, _, rfl, ?_⟩
        have h1 : 1 ≤ z.length := by have := of_decide_eq_true h1; omega
        by_cases h6 : z.length ≤ 6
        · have e6 : decide (((z.length : Nat) : Int) ≤ 6) = true := decide_eq_true (by omega)
          rw [e6]
          refine iteF ?_
          -- all([letter in LETTERS for letter in value])
          refine ⟨_, rfl, z, rfl, fun D hD => lc_it (walk_str (z := z)) (fun i H' => H D = none ∧ Ex H H' ∧ H' D = some (.lst ((z.cps.toList.take i).map fun c => V.bl (decide (c ∈ letters.cps.toList))))) ⟨hD, Ex.new hD, upd_same⟩ (fun _ _ _ _ => True.intro) (fun i v H3 H4 hi hp hy => ?_) (fun H' hp => ?_)⟩
          · obtain ⟨rfl, c, hc, rfl⟩ := hy
            obtain ⟨h1', h2', h3'⟩ := hp
            refine ⟨rfl, _, rfl, c, letters, rfl, rfl, _, h3', ?_, h1', h2'.mut h1', ?_⟩
            · rw [List.length_map, List.length_take]
              exact sz_lt (by have : z.cps.size = z.length := rfl; omega)
            · have hc' : z.cps.toList[i]? = some c := by rw [Array.getElem?_toList]; exact hc
              rw [upd_same, List.take_add_one, hc', List.map_append]
              rfl
          · refine ⟨D, z.cps.toList.map fun c => decide (c ∈ letters.cps.toList), rfl, sq_of (hp.2.2.trans ?_), ?_⟩
            · rw [List.take_of_length_le (by rw [Array.length_toList]; exact Nat.le_refl _), List.map_map]
              rfl
            · have e : (z.cps.toList.map fun c => decide (c ∈ letters.cps.toList)).all id = nameK (.s z) := by
                show _ = nameS z
                unfold nameS
                rw [decide_eq_true h1, decide_eq_true h6, List.all_map]
                rfl
              rw [e]
              exact q _ hp.2.1
        · have e6 : decide (((z.length : Nat) : Int) ≤ 6) = false := decide_eq_false (by omega)
          rw [e6]
          refine iteT ?_
          have e : nameK (.s z) = false := by
            show nameS z = false
            unfold nameS
            rw [decide_eq_false h6, Bool.and_false]
            rfl
          rw [e] at q
          exact q _ (Ex.refl _)
      · refine ⟨_, rfl, iteT ?_⟩
        have h1 : ¬ 1 ≤ z.length := fun h => h1 (decide_eq_true (by omega))
        have e : nameK (.s z) = false := by
          show nameS z = false
          unfold nameS
          rw [decide_eq_false h1]
          rfl
        rw [e] at q
        exact q _ (Ex.refl _)
    | i n => exact iteT (iteT (q _ (Ex.refl _)))
    | b c => exact iteT (iteT (q _ (Ex.refl _)))
    | o => exact iteT (iteT (q _ (Ex.refl _)))
end
end Eyes

set_option Elab.async false
set_option linter.all false
set_option maxRecDepth 100000
set_option maxHeartbeats 4000000
namespace Eyes
open PySem PySem.Spec PyProof.Rows L2 Evl TL
def spWords (n : Nat) : Sp := fun vs H Q _ => ∃ (v : V) (c : Ci), vs = [v] ∧ Rep H v c.data ∧ c.depth < n ∧ c.fine ∧ ∀ H', Ex H H' → Q (.str c.str) H'
def Ci.big (c : Ci) : Prop := c.ok ∧ c.size ≤ 9000
theorem Ci.fine.big {c : Ci} (h : c.fine) : c.big := ⟨h.1, Nat.le_trans h.2 (by decide)⟩
theorem parts_big {c d : Ci} (h : c.big) (hd : d ∈ c.parts) : d.big := by
  cases c with
  | eye n => exact absurd hd (by intro h; cases h)
  | node k ps =>
    have hd : d ∈ ps := hd
    have h2 : sizes ps ≤ 9000 := h.2
    exact ⟨oks_mem.mp h.1.2 d hd, Nat.le_trans (sizes_mem hd) h2⟩
def spNumC (g : Ci → Nat) (n : Nat) : Sp := fun vs H Q _ => ∃ (v : V) (c : Ci), vs = [v] ∧ Rep H v c.data ∧ c.depth < n ∧ c.big ∧ ∀ H', Ex H H' → Q (.int (g c)) H'
def spCirc (C : Addr) (n : Nat) : Sp := fun vs H Q _ => ∃ (v : V) (c : Ci), vs = [v] ∧ Rep H v c.data ∧ c.depth < n ∧ c.depth ≤ 20 ∧ c.size ≤ 60 ∧ c.norm ∧ ∀ v H', Ex H H' → CiAt C H' v c → Q v H'
section
variable {P : Program} {w : World} {K : PySem.W.Frag} {mg : Str → Option Value} {base : Heap} {AA : Adr}
theorem inner_sum {qs : List Ci} (hn : qs.length ≤ 900) (h : ∀ c ∈ qs, c.str.length ≤ 900) : ((qs.map inner).map (·.length)).sum + (qs.map inner).length * 3 ≤ 16777216 := by
  have h5 : ∀ qs : List Ci, (∀ c ∈ qs, c.str.length ≤ 900) → ((qs.map inner).map (·.length)).sum ≤ qs.length * 902 := by
    intro qs
    induction qs with
    | nil => intro _; simp
    | cons c r ih =>
      intro h
      have h6 := ih fun d hd => h d (List.mem_cons_of_mem _ hd)
      have h7 := h c List.mem_cons_self
      have h8 : (inner c).length ≤ c.str.length + 2 := by
        rw [len_tl, len_tl, tl_str]
        cases c with
        | eye n => exact Nat.le_add_right _ _
        | node k ps => show (40 :: (_ ++ [41])).length ≤ _; rw [List.length_cons, List.length_append]; exact Nat.le_refl _
      rw [List.map_cons, List.map_cons, List.sum_cons, List.length_cons, Nat.succ_mul]
      omega
  have h9 := h5 qs h
  rw [List.length_map]
  have : qs.length * 902 ≤ 900 * 902 := Nat.mul_le_mul_right _ hn
  omega
theorem cut_from (xs : List V) : cutV xs (some 1) none = xs.drop 1 := by
  show cutV xs (some ((1 : Nat) : Int)) none = _
  unfold cutV
  rw [HT.sIx_none, HT.sIx_nat]
  cases xs with
  | nil => rfl
  | cons x r =>
    rw [Nat.min_eq_left (by simp)]
    show (r.take _) = r
    rw [List.take_of_length_le (by simp)]
theorem nm_name {n : Str} (h : nm n) : nameS n = true := by
  unfold nameS
  rw [decide_eq_true h.1, decide_eq_true h.2.1]
  show (n.cps.toList.all fun c => decide (c ∈ letters.cps.toList)) = true
  rw [List.all_eq_true]
  intro c hc
  have h2 := h.2.2 c hc
  refine decide_eq_true ?_
  have h3 : letters.cps.toList = (List.range 26).map (· + 97) := by decide +kernel
  rw [h3, List.mem_map]
  exact ⟨c - 97, by rw [List.mem_range]; omega, by omega⟩
theorem nm_okS {n : Str} (h : nm n) : okS n := ⟨by have := h.2.1; omega, fun c hc => by have := h.2.2 c hc; omega⟩
def spEye (C : Addr) : Sp := fun vs H Q _ => ∃ (z : Str), vs = [.str z] ∧ nm z ∧ ∀ v H', Ex H H' → CiAt C H' v (.eye z) → Q v H'
theorem ok_eye (T : Txt K mg AA) : Pr P w K mg base "eye" s_eye p_eye 6 (spEye AA.Circle) := by
  refine pr_mk T.f_eye sc_eye (fun vs H Q E h => ?_) (fun f cdv A outer s H vs Q E hr h => ?_)
  · obtain ⟨z, rfl, _⟩ := h
    rfl
  · obtain ⟨z, rfl, hn, q⟩ := h
    refine ⟨_, (pss_cons (ps_if (pt_not (pt_val (pcall (ok_is_name T) hr (pa_cons (pv 0) pa_nil))))
      pss_never
      pss_nil)
      (pss_one (ps_ret (pmake T.m_Circle (ok_Circle___init T) hr (pa_cons pe_str (pa_cons (pv 0) (pa_cons (pe_lst pa_nil) pa_nil))))))), ?_⟩
    refine ⟨_, rfl, .str z, .s z, rfl, ⟨rfl, nm_okS hn⟩, fun H1 e1 => ⟨_, rfl, ?_⟩⟩
    show if (!nameS z) = true then _ else _
    rw [nm_name hn]
    refine iteF ?_
    -- Circle('eye', name, [])
    refine ⟨_, rfl, by show 0 ≤ sizeLine; decide, fun l hl x dx hx hdx hne => ?_⟩
    have eX : Ex (upd H1 l (.lst [])) (upd (upd (upd H1 l (.lst [])) dx (.own x)) x (.ins AA.Circle dx [])) := (Ex.new hdx).trans (Ex.new ((upd_ne (Ne.symm hne)).trans hx))
    refine ⟨x, dx, l, [], .eye z, upd H1 l (.lst []), rfl, hx, eX, upd_same, sq_of upd_same, .nil, by decide, (fun d hd => by cases hd), (fun j hj => by cases hj), fun H6 e6 hA => ⟨rfl, ?_⟩⟩
    exact q _ H6 ((e1.trans (Ex.new hl)).trans e6) hA
theorem ok_law_words (T : Txt K mg AA) : ∀ n : Nat, Pr P w K mg base "_law_words" s_law_words p_law_words n (spWords n)
  | 0 => by
    obtain ⟨f, fd, F, hb, hm⟩ := T.f_law_words
    exact ⟨f, fd, hm, F, hb, fun vs H Q E h => by
      obtain ⟨x, d, _, _, h, _⟩ := h
      omega, fun A outer s H args us vs Q E _ _ _ _ h => by
      obtain ⟨x, d, _, _, h, _⟩ := h
      omega⟩
  | n + 1 => by
    have G := ok_law_words T n
    refine pr_mk T.f_law_words sc_law_words (fun vs H Q E h => ?_) (fun f cdv A outer s H vs Q E hr h => ?_)
    · obtain ⟨v, c, rfl, _⟩ := h
      rfl
    · obtain ⟨v, c, rfl, hA, hd, hf, q⟩ := h
      refine ⟨_, (pss_cons (ps_if (pt_cmpR op_eq (pe_ix (ix_tupK (K := K) rfl) (pv 0) pe_int (fun _ _ => rfl)) pe_str (nomark _))
      (pss_one (ps_ret (pe_ix (ix_tupK (K := K) rfl) (pv 0) pe_int (fun _ _ => rfl))))
      pss_nil)
      (pss_cons (ps_set (i := 1) sc_law_words.nd rfl (.inl rfl) (pe_ifExp (pt_cmpR op_eq (pe_ix (ix_tupK (K := K) rfl) (pv 0) pe_int (fun _ _ => rfl)) pe_str (nomark _)) pe_str pe_str))
      (pss_one (ps_ret (pe_join (pv 1) (pe_lc (own := [("_law_x", 2)]) (g := gName 2) (tt := tYes) rfl sc_law_words.nd (pi_tup (pe_ix (ix_tupK (K := K) rfl) (pv 0) pe_int (fun _ _ => rfl))) (blkOk_by (own := [("_law_x", 2)]) (N := n_law_words) (sc := defScope s_law_words) (by decide +kernel)) (fun _ _ _ _ _ => (pg_name (i := 2) sc_law_words.nd rfl (.inl rfl))) (fun _ _ _ _ _ => pts_nil) (fun _ _ _ _ _ => (pe_ifExp (pt_cmpR op_eq (pe_ix (ix_tupK (K := K) rfl) (pv 2) pe_int (fun _ _ => rfl)) pe_str (nomark _)) (pcall G hr (pa_cons (pv 2) pa_nil)) (pe_op op_add_str (pe_op op_add_str pe_str (pcall G hr (pa_cons (pv 2) pa_nil))) pe_str))))))))), ?_⟩
      obtain ⟨a, x, rfl, ha, hx1, hx2⟩ := hA.node
      refine ⟨_, rfl, a, _, 0, _, rfl, rfl, st_of ha, rfl, rfl, _, rfl, ?_⟩
      cases c with
      | eye z =>
        refine iteT ?_
        rw [hx1 z rfl] at ha
        have q2 := q _ (Ex.refl _)
        rw [str_eye] at q2
        exact ⟨_, rfl, a, _, 1, _, rfl, rfl, st_of ha, rfl, q2⟩
      | node k ps =>
        have e2 : (decide ((V.str (Ci.node k ps).kind) = V.str (Str.ofString "eye"))) = false := decide_eq_false fun h => kindS_eye k (V.str.inj h)
        rw [e2]
        refine iteF ?_
        obtain ⟨b, ws, rfl, hb, hr2⟩ := hx2 k ps rfl
        have hwl := hr2.lengthC
        have hs : sizes ps ≤ 60 := hf.2
        have hdn : 1 + depths ps < n + 1 := hd
        have hpf : ∀ c ∈ ps, c.fine := fun c hc => parts_fine hf (show c ∈ (Ci.node k ps).parts from hc)
        have hpn : ps.length ≤ 60 := Nat.le_trans (sizes_len ps hf.1.2) hs
        have hkk : decide (V.str (Ci.node k ps).kind = V.str (Str.ofString "pool")) = k := (show ∀ k : Bool, decide (V.str (kindS k) = V.str (Str.ofString "pool")) = k by decide +kernel) k
        refine ⟨_, rfl, a, _, 0, _, rfl, rfl, st_of ha, rfl, rfl, _, rfl, ?_⟩
        rw [hkk]
        have fin : ∀ (S : Str), tl S = tl (sepS k) → Txt.join S (ps.map inner) = (Ci.node k ps).str := fun S hS => by
          refine ext_tl ?_
          rw [TL.join_eq, tl_join, List.map_map, hS]
          show joinL (tl (sepS k)) _ = joinL (tl (sepS k)) (inns ps)
          rw [inns_map]
          rfl
        have hsum : ((ps.map inner).map (·.length)).sum + (ps.map inner).length * 3 ≤ 16777216 := inner_sum (by omega) fun c hc => (by have := fine_len (hpf c hc); omega)
        cases k
        case' true => refine iteT ?_
        case' false => refine iteF ?_
        all_goals
          refine ⟨_, rfl, ⟨_, rfl⟩, _, rfl, a, _, 1, _, rfl, rfl, st_of ha, rfl, b, rfl, ⟨ws, st_of hb⟩, fun D hD => lc_it (walk_tup (xs := ws)) (fun i H' => H D = none ∧ Ex H H' ∧ H' D = some (.lst ((ps.take i).map fun c => V.str (inner c)))) ⟨hD, Ex.new hD, upd_same⟩ (fun _ _ _ hp => st_of (hp.2.1 _ _ hb)) (fun i v H3 H4 hi hp hy => ?_) (fun H' hp => ?_)⟩
          · obtain ⟨rfl, hv⟩ := hy
            obtain ⟨c, hc, hAc⟩ := hr2.getC hv
            obtain ⟨h1, h2, h3⟩ := hp
            have hcm := List.mem_of_getElem? hc
            have hcd := depths_le hcm
            have hcf := hpf c hcm
            have hcl := fine_len hcf
            obtain ⟨a2, x2, rfl, ha2, hy1, hy2⟩ := hAc.node
            have put : ∀ (z : Str) (H5 : Hp), Ex H4 H5 → z = inner c → ∃ acc, H5 D = some (.lst acc) ∧ acc.length < sizeLine ∧ H D = none ∧ Ex H (upd H5 D (.lst (acc ++ [.str z]))) ∧ (upd H5 D (.lst (acc ++ [.str z]))) D = some (.lst ((ps.take (i + 1)).map fun c => V.str (inner c))) := fun z H5 e5 hz => by
              subst hz
              refine ⟨_, e5 _ _ h3, ?_, h1, (h2.trans e5).mut h1, ?_⟩
              · rw [List.length_map, List.length_take]
                exact sz_lt (by omega)
              · rw [upd_same, List.take_add_one, hc, List.map_append]
                rfl
            refine ⟨rfl, _, rfl, a2, _, 0, _, rfl, rfl, st_of (h2 _ _ ha2), rfl, rfl, _, rfl, ?_⟩
            cases c with
            | eye z =>
              refine iteT ?_
              exact ⟨_, rfl, _, .eye z, rfl, hAc.mono h2, by omega, hcf, fun H5 e5 => put _ H5 e5 (by rw [str_eye]; exact (ext_tl rfl))⟩
            | node j qs =>
              have e2 : (decide ((V.str (Ci.node j qs).kind) = V.str (Str.ofString "eye"))) = false := decide_eq_false fun h => kindS_eye j (V.str.inj h)
              rw [e2]
              refine iteF ?_
              have l1 : (Str.ofString "(").length = 1 := by decide +kernel
              have l2 : (Str.ofString ")").length = 1 := by decide +kernel
              refine ⟨_, rfl, _, .node j qs, rfl, hAc.mono h2, by omega, hcf, fun H5 e5 => ⟨_, _, rfl, rfl, sz_of (by omega), _, _, rfl, rfl, sz_of ?_, put _ H5 e5 ?_⟩⟩
              · rw [len_tl, tl_append, List.length_append, ← len_tl, ← len_tl]
                omega
              · refine ext_tl ?_
                rw [tl_append, tl_append, tl_str]
                rfl
          · obtain ⟨h1, h2, h3⟩ := hp
            rw [List.take_of_length_le (by rw [hwl]; exact Nat.le_refl _)] at h3
            have hd : H' D = some (.lst ((ps.map inner).map V.str)) := by
              rw [h3, List.map_map]
              rfl
            refine ⟨_, D, ps.map inner, rfl, rfl, .inl (sq_of hd), hsum, ?_⟩
            first
            | (show Q (V.str (Txt.join (Str.ofString " & ") (ps.map inner))) H'; rw [fin (Str.ofString " & ") rfl]; exact q _ h2)
            | (show Q (V.str (Txt.join (Str.ofString " | ") (ps.map inner))) H'; rw [fin (Str.ofString " | ") rfl]; exact q _ h2)
theorem ok_law_circle (T : Txt K mg AA) : ∀ n : Nat, Pr P w K mg base "_law_circle" s_law_circle p_law_circle (n + 8) (spCirc AA.Circle n)
  | 0 => by
    obtain ⟨f, fd, F, hb, hm⟩ := T.f_law_circle
    exact ⟨f, fd, hm, F, hb, fun vs H Q E h => by
      obtain ⟨x, d, _, _, h, _⟩ := h
      omega, fun A outer s H args us vs Q E _ _ _ _ h => by
      obtain ⟨x, d, _, _, h, _⟩ := h
      omega⟩
  | n + 1 => by
    have G := ok_law_circle T n
    refine pr_mk T.f_law_circle sc_law_circle (fun vs H Q E h => ?_) (fun f cdv A outer s H vs Q E hr h => ?_)
    · obtain ⟨v, c, rfl, _⟩ := h
      rfl
    · obtain ⟨v, c, rfl, hA, hd, hd20, hs60, hn, q⟩ := h
      refine ⟨_, (pss_cons (ps_if (pt_cmpR op_eq (pe_ix (ix_tupK (K := K) rfl) (pv 0) pe_int (fun _ _ => rfl)) pe_str (nomark _))
      (pss_one (ps_ret (pcall (ok_eye T) hr (pa_cons (pe_ix (ix_tupK (K := K) rfl) (pv 0) pe_int (fun _ _ => rfl)) pa_nil))))
      pss_nil)
      (pss_cons (ps_set (i := 1) sc_law_circle.nd rfl (.inl rfl) (pcall G hr (pa_cons (pe_ix (ix_tupK (K := K) rfl) (pe_ix (ix_tupK (K := K) rfl) (pv 0) pe_int (fun _ _ => rfl)) pe_int (fun _ _ => rfl)) pa_nil)))
      (pss_cons (ps_for PassesOwn.never rfl (pi_tup (pe_slice sl_tup (pe_ix (ix_tupK (K := K) rfl) (pv 0) pe_int (fun _ _ => rfl)) (po_some pe_int) po_none)) (pg_name (i := 2) sc_law_circle.nd rfl (.inl rfl))
      (pss_one (ps_if (pt_cmpR op_eq (pe_ix (ix_tupK (K := K) rfl) (pv 0) pe_int (fun _ _ => rfl)) pe_str (nomark _))
      (pss_one (ps_set (i := 1) sc_law_circle.nd rfl (.inl rfl) (pe_op (op_ownB T.s_Circle (ok_Circle___and T) hr) (pv 1) (pcall G hr (pa_cons (pv 2) pa_nil)))))
      (pss_one (ps_set (i := 1) sc_law_circle.nd rfl (.inl rfl) (pe_op (op_ownB T.s_Circle (ok_Circle___or T) hr) (pv 1) (pcall G hr (pa_cons (pv 2) pa_nil))))))))
      (pss_one (ps_ret (pv 1)))))), ?_⟩
      obtain ⟨a, x, rfl, ha, hx1, hx2⟩ := hA.node
      refine ⟨_, rfl, a, _, 0, _, rfl, rfl, st_of ha, rfl, rfl, _, rfl, ?_⟩
      cases c with
      | eye z =>
        refine iteT ?_
        rw [hx1 z rfl] at ha
        exact ⟨_, rfl, a, _, 1, _, rfl, rfl, st_of ha, rfl, z, rfl, hn, fun v H' e hv => q v H' e hv⟩
      | node k ps =>
        have e2 : (decide ((V.str (Ci.node k ps).kind) = V.str (Str.ofString "eye"))) = false := decide_eq_false fun h => kindS_eye k (V.str.inj h)
        rw [e2]
        refine iteF ?_
        obtain ⟨b, ws, rfl, hb, hr2⟩ := hx2 k ps rfl
        have hwl := hr2.lengthC
        have h2p : 2 ≤ ps.length := hn.1
        have hs : sizes ps ≤ 60 := hs60
        have hdp : 1 + depths ps ≤ 20 := hd20
        have hdn : 1 + depths ps < n + 1 := hd
        have hnm := norms_mem.mp hn.2.2.2
        have h0w : 0 < ws.length := by omega
        obtain ⟨c0, hc0, hA0⟩ := hr2.getC (List.getElem?_eq_getElem h0w)
        have hm0 := List.mem_of_getElem? hc0
        have hd0 := depths_le hm0
        refine ⟨_, rfl, a, _, 1, _, rfl, rfl, st_of ha, rfl, b, ws, 0, _, rfl, rfl, st_of hb, at_of (j := 0) rfl (List.getElem?_eq_getElem h0w), _, c0, rfl, hA0, by omega, by omega, Nat.le_trans (sizes_mem hm0) hs, hnm c0 hm0, fun v1 H1 e1 hv1 => ?_⟩
        refine ⟨_, rfl, a, _, 1, _, rfl, rfl, st_of (e1 _ _ ha), rfl, _, rfl, b, ws, rfl, st_of (e1 _ _ hb), ?_, fun sl hsl => ?_⟩
        · show ¬(HT.sIx ws.length 0 (some ((1 : Nat) : Int)) = 0 ∧ _)
          rw [HT.sIx_nat]
          rintro ⟨h, _⟩
          omega
        · rw [cut_from]
          have es := e1.trans (Ex.new (o := .tup (ws.drop 1)) hsl)
          have hdl : (ws.drop 1).length = ps.length - 1 := by rw [List.length_drop, hwl]
          refine ⟨sl, rfl, ⟨_, st_of upd_same⟩, for_tup (xs := ws.drop 1) (fun i σ H' => ∃ (v : V) (y : Option V), σ = [some (.ref a), some v, y] ∧ Ex H H' ∧ H' sl = some (.tup (ws.drop 1)) ∧ CiAt AA.Circle H' v (some_of k (ps.take (i + 1)))) ⟨v1, none, rfl, es, upd_same, ?_⟩ (fun i σ H' _ hp => ?_) (fun i x σ H' hx hp => ?_) (fun σ H' hp => ?_)⟩
          · have e : ps.take 1 = [c0] := by
              rw [List.take_add_one, hc0]
              rfl
            rw [e]
            exact hv1.mono (Ex.new hsl)
          · obtain ⟨v, y, rfl, e3, h3, h4⟩ := hp
            exact st_of h3
          · obtain ⟨v, y, rfl, e3, h3, h4⟩ := hp
            rw [List.getElem?_drop] at hx
            obtain ⟨c, hc, hAc⟩ := hr2.getC hx
            have hcm := List.mem_of_getElem? hc
            have hcd := depths_le hcm
            obtain ⟨hm, hgd⟩ := good_step (j := i + 1) hn hs hdp (by omega) (by rw [Nat.add_comm]; exact hc)
            refine ⟨_, rfl, a, _, 0, _, rfl, rfl, st_of (e3 _ _ ha), rfl, rfl, _, rfl, ?_⟩
            have hkk : decide (V.str (Ci.node k ps).kind = V.str (Str.ofString "pool")) = k := (show ∀ k : Bool, decide (V.str (kindS k) = V.str (Str.ofString "pool")) = k by decide +kernel) k
            rw [hkk]
            cases k with
            | true =>
              refine iteT ?_
              refine ⟨_, rfl, _, rfl, x, c, rfl, hAc.mono e3, by omega, by omega, Nat.le_trans (sizes_mem hcm) hs, hnm c hcm, fun v2 H4 e4 hv2 => ?_⟩
              have h5 := h4.mono e4
              obtain ⟨p1, dx1, l1, us1, rfl, hp1, _⟩ := h5.at_
              obtain ⟨p2, dx2, l2, us2, rfl, hp2, _⟩ := hv2.at_
              refine ⟨p1, p2, dx1, dx2, _, _, rfl, rfl, hp1, hp2, _, _, _, _, rfl, h5, hv2, hgd, fun v3 H5 e5 hv3 => ⟨v3, _, rfl, (e3.trans e4).trans e5, e5 _ _ (e4 _ _ h3), ?_⟩⟩
              rw [← hm]
              exact hv3
            | false =>
              refine iteF ?_
              refine ⟨_, rfl, _, rfl, x, c, rfl, hAc.mono e3, by omega, by omega, Nat.le_trans (sizes_mem hcm) hs, hnm c hcm, fun v2 H4 e4 hv2 => ?_⟩
              have h5 := h4.mono e4
              obtain ⟨p1, dx1, l1, us1, rfl, hp1, _⟩ := h5.at_
              obtain ⟨p2, dx2, l2, us2, rfl, hp2, _⟩ := hv2.at_
              refine ⟨p1, p2, dx1, dx2, _, _, rfl, rfl, hp1, hp2, _, _, _, _, rfl, h5, hv2, hgd, fun v3 H5 e5 hv3 => ⟨v3, _, rfl, (e3.trans e4).trans e5, e5 _ _ (e4 _ _ h3), ?_⟩⟩
              rw [← hm]
              exact hv3
          · obtain ⟨v, y, rfl, e3, h3, h4⟩ := hp
            rw [hdl, List.take_of_length_le (by omega), some_node h2p] at h4
            exact ⟨v, rfl, q v H' e3 h4⟩
end
end Eyes

set_option Elab.async false
set_option linter.all false
set_option maxRecDepth 100000
set_option maxHeartbeats 4000000
namespace Eyes
open PySem PySem.Spec PyProof.Rows L2 Evl TL
theorem joinL_nil : ∀ l : List (List Nat), joinL [] l = l.flatten
  | [] => rfl
  | [p] => by simp [joinL]
  | p :: q :: r => by
    show p ++ ([] ++ joinL [] (q :: r)) = _
    rw [joinL_nil (q :: r)]
    simp
theorem join_signs (cs : List Nat) : tl (Txt.join ("" : Str) (cs.map fun c => ⟨#[c]⟩)) = cs := by
  rw [join_eq, tl_join, show tl ("" : Str) = [] by decide +kernel, joinL_nil, List.map_map]
  induction cs with
  | nil => rfl
  | cons c cs ih =>
    rw [List.map_cons, List.flatten_cons, ih]
    rfl
theorem sum_signs {cs : List Nat} (h : cs.length ≤ 1000) : ((cs.map fun c => (⟨#[c]⟩ : Str)).map (·.length)).sum + (cs.map fun c => (⟨#[c]⟩ : Str)).length * Str.length ("" : Str) ≤ 16777216 := by
  have e : ((cs.map fun c => (⟨#[c]⟩ : Str)).map (·.length)).sum ≤ cs.length := by
    clear h
    induction cs with
    | nil => exact Nat.le_refl _
    | cons c cs ih =>
      rw [List.map_cons, List.map_cons, List.sum_cons, List.length_cons]
      have : (⟨#[c]⟩ : Str).length = 1 := rfl
      omega
  have e2 : ((cs.map fun c => (⟨#[c]⟩ : Str)).length * Str.length ("" : Str)) = 0 := by
    rw [show Str.length ("" : Str) = 0 by decide +kernel, Nat.mul_zero]
  omega
theorem flat_strs (ts : List Str) : (ts.map V.str).all flatV = true := by
  rw [List.all_map, List.all_eq_true]
  intro t _
  rfl
theorem low_of {z : Str} (h : (z.cps.toList.all fun c => decide (97 ≤ c) && decide (c ≤ 122)) = true) : ∀ c ∈ z.cps.toList, 97 ≤ c ∧ c ≤ 122 := fun c hc => by
  have := List.all_eq_true.mp h c hc
  rw [Bool.and_eq_true] at this
  exact ⟨of_decide_eq_true this.1, of_decide_eq_true this.2⟩
def nmB (z : Str) : Bool := decide (1 ≤ z.length) && decide (z.length ≤ 6) && z.cps.toList.all fun c => decide (97 ≤ c) && decide (c ≤ 122)
theorem nm_of {z : Str} (h : nmB z = true) : nm z := by
  unfold nmB at h
  rw [Bool.and_eq_true, Bool.and_eq_true] at h
  exact ⟨of_decide_eq_true h.1.1, of_decide_eq_true h.1.2, low_of h.2⟩
def nmV : V → Bool | .str z => nmB z | _ => false
theorem nms_of {l : List V} {v : V} (h : l.all nmV = true) (hv : v ∈ l) : ∃ y, v = .str y ∧ nm y := by
  have := List.all_eq_true.mp h v hv
  cases v with
  | str y => exact ⟨y, rfl, nm_of this⟩
  | _ => cases this
theorem free_sign {z : Str} {ts : List Str} (h1 : z.cps.toList.Nodup) (h2 : ts.length < z.length) : (z.cps.toList.filter fun c => !inV (.str ⟨#[c]⟩) (ts.map V.str)) ≠ [] := by
  intro h
  have h3 : ∀ c ∈ z.cps.toList, (⟨#[c]⟩ : Str) ∈ ts := fun c hc => by
    have h4 : ¬ (!inV (.str ⟨#[c]⟩) (ts.map V.str)) = true := fun g => by
      have : c ∈ z.cps.toList.filter fun c => !inV (.str ⟨#[c]⟩) (ts.map V.str) := List.mem_filter.mpr ⟨hc, g⟩
      rw [h] at this
      cases this
    have h5 : inV (.str ⟨#[c]⟩) (ts.map V.str) = true := by simpa using h4
    unfold inV at h5
    rw [List.any_map, List.any_eq_true] at h5
    obtain ⟨t, ht, e⟩ := h5
    have e : (t == (⟨#[c]⟩ : Str)) = true := e
    rw [← (by simpa using e : t = ⟨#[c]⟩)]
    exact ht
  have h6 : (z.cps.toList.map fun c => (⟨#[c]⟩ : Str)).Nodup := by
    refine List.pairwise_map.mpr (h1.imp fun {a b} hn hab => hn ?_)
    injection hab with hab
    simpa using hab
  have h7 := List.Nodup.length_le_of_subset (l₁ := z.cps.toList.map fun c => (⟨#[c]⟩ : Str)) (l₂ := ts) h6 fun x hx => by
    obtain ⟨c, hc, rfl⟩ := List.mem_map.mp hx
    exact h3 c hc
  rw [List.length_map, Array.length_toList] at h7
  have : z.cps.size = z.length := rfl
  omega
def spTtl : Sp := fun vs H Q _ => ∃ (b tk : Addr) (G : Hp) (ts : List Str), vs = [.ref b, .ref tk] ∧ At b G H ∧ G tk = some (.lst (ts.map V.str)) ∧ ts.length ≤ 20 ∧ ∀ z H', nm z → At b G H' → Q (.str z) H'
section
variable {P : Program} {w : World} {K : PySem.W.Frag} {mg : Str → Option Value} {base : Heap} {AA : Adr}
theorem ok_law_title (T : Txt K mg AA) : Pr P w K mg base "_law_title" s_law_title p_law_title 3 spTtl := by
  refine pr_mk T.f_law_title sc_law_title (fun vs H Q E h => ?_) (fun f cdv A outer s H vs Q E hr h => ?_)
  · obtain ⟨b, tk, G, ts, rfl, _⟩ := h
    rfl
  · obtain ⟨b, tk, G, ts, rfl, hA, hT, hts, q⟩ := h
    refine ⟨_, (Evl.pss_cut (ps_if (pt_cmpR op_eq (pcall (ok_law_draw T) hr (pa_cons (pv 0) (pa_cons pe_int pa_nil))) pe_int (nomark _))
      (pss_one (ps_set (i := 2) sc_law_title.nd rfl (.inl rfl) (pcall (ok_law_of T) hr (pa_cons (pv 0) (pa_cons (pe_lst (pa_cons pe_str (pa_cons pe_str (pa_cons pe_str (pa_cons pe_str (pa_cons pe_str (pa_cons pe_str (pa_cons pe_str (pa_cons pe_str (pa_cons pe_str (pa_cons pe_str (pa_cons pe_str pa_nil)))))))))))) pa_nil)))))
      (pss_one (ps_set (i := 2) sc_law_title.nd rfl (.inl rfl) (pe_join pe_str (pe_lc (own := [("_law_k", 3)]) (g := gName 3) (tt := tYes) rfl sc_law_title.nd (pi_range1 (by rfl) T.n_range (pa_cons (pe_op op_add pe_int (pcall (ok_law_draw T) hr (pa_cons (pv 0) (pa_cons pe_int pa_nil)))) pa_nil)) (blkOk_by (own := [("_law_k", 3)]) (N := n_law_title) (sc := defScope s_law_title) (by decide +kernel)) (fun _ _ _ _ _ => (pg_name (i := 3) sc_law_title.nd rfl (.inl rfl))) (fun _ _ _ _ _ => pts_nil) (fun _ _ _ _ _ => (pcall (ok_law_of T) hr (pa_cons (pv 0) (pa_cons pe_str pa_nil)))))))))
      (pss_cons (ps_if (pt_cmpR (op_in_seqK (K := K) rfl) (pv 2) (pv 1) (by rfl))
      (pss_one (ps_set (i := 2) sc_law_title.nd rfl (.inl rfl) (pe_ix (ix_listK (K := K) rfl) (pe_lc (own := [("_law_sign", 4)]) (g := gName 4) rfl sc_law_title.nd (pi_str pe_str) (blkOk_by (own := [("_law_sign", 4)]) (N := n_law_title) (sc := defScope s_law_title) (by decide +kernel)) (fun _ _ _ _ _ => (pg_name (i := 4) sc_law_title.nd rfl (.inl rfl))) (fun _ _ _ _ _ => (pts_one (pt_cmpR (op_notIn_seqK (K := K) rfl) (pv 4) (pv 1) (by rfl)))) (fun _ _ _ _ _ => (pv 4))) pe_int (fun _ _ => rfl))))
      pss_nil)
      (pss_one (ps_ret (pv 2))))), ?_⟩
    refine ⟨fun σ H' => ∃ (z : Str) (y3 y4 : Option V), σ = [some (.ref b), some (.ref tk), some (.str z), y3, y4] ∧ nm z ∧ At b G H', ?_, fun σ H' hM => ?_⟩
    · refine ⟨_, rfl, b, 7, G, rfl, hA, by decide, by decide, fun tn H1 t0 t1 hA1 => ⟨rfl, _, rfl, ite2 (fun hb => ?_) (fun hb => ?_)⟩⟩
      · refine ⟨_, rfl, by show 11 ≤ sizeLine; decide, fun p hp => ?_⟩
        refine ⟨b, .ref p, _, _, rfl, hA1.new hp, .inl ⟨p, rfl, sq_of upd_same⟩, by decide +kernel, by decide +kernel, fun v H6 hv hA6 => ?_⟩
        have hA7 := hA6.weak (Ex.new (hA1.nh hp))
        obtain ⟨y, rfl, hy⟩ := nms_of (by decide +kernel) hv
        exact ⟨y, none, none, rfl, hy, hA7⟩
      · refine ⟨⟨_, rfl⟩, _, rfl, b, 6, G, rfl, hA1, by decide, by decide, fun sz H2 z0 z1 hA2 => ?_⟩
        refine ⟨1, sz, rfl, rfl, _, rfl, by omega, by omega, fun D hD => lc_it walk_range (fun i H' => ∃ cs : List Nat, cs.length = i ∧ (∀ c ∈ cs, 97 ≤ c ∧ c ≤ 122) ∧ At b (upd G D (.lst (cs.map fun c => V.str ⟨#[c]⟩))) H')
          ⟨[], rfl, (fun c hc => by cases hc), hA2.new hD⟩ (fun _ _ _ _ => True.intro) (fun i v H3 H4 hi hp hy => ?_) (fun H' hp => ?_)⟩
        · obtain ⟨rfl, rfl⟩ := hy
          obtain ⟨cs, hl, hc, hA3⟩ := hp
          refine ⟨rfl, ?_⟩
          refine ⟨_, rfl, b, _, _, _, rfl, hA3, .inr (.inr ⟨_, rfl, by decide +kernel, rfl⟩), by decide +kernel, by decide +kernel, fun v H5 hv hA5 => ?_⟩
          obtain ⟨c, hcm, rfl⟩ := List.mem_map.mp hv
          have hlo := low_of (by decide +kernel) c hcm
          refine ⟨_, hA5.ex _ _ upd_same, ?_, cs ++ [c], by simp [hl], ?_, ?_⟩
          · rw [List.length_map]
            exact sz_lt (by omega)
          · intro d hd
            rcases List.mem_append.mp hd with h | h
            · exact hc d h
            · rw [List.mem_singleton.mp h]
              exact hlo
          · rw [List.map_append]
            exact hA5.put
        · obtain ⟨cs, hl, hc, hA3⟩ := hp
          have hlen : cs.length ≤ 6 := by omega
          have hlen1 : 1 ≤ cs.length := by omega
          refine ⟨"", D, cs.map fun c => ⟨#[c]⟩, rfl, rfl, .inl (sq_of ((hA3.ex _ _ upd_same).trans (by rw [List.map_map]; rfl))), sum_signs (by omega), ?_⟩
          have hz : nm (Txt.join ("" : Str) (cs.map fun c => ⟨#[c]⟩)) := by
            have e := join_signs cs
            refine ⟨by rw [len_tl, e]; exact hlen1, by rw [len_tl, e]; exact hlen, fun c h => ?_⟩
            rw [e] at h
            exact hc c h
          exact ⟨_, none, none, rfl, hz, hA3.weak (Ex.new (hA2.nh hD))⟩
    · obtain ⟨z, y3, y4, rfl, hz, hA⟩ := hM
      have hT1 := hA.ex _ _ hT
      refine ⟨_, rfl, _, rfl, tk, ts.map V.str, rfl, .inl (sq_of hT1), rfl, flat_strs ts, _, rfl, ite2 (fun hb => ?_) (fun hb => ?_)⟩
      · have hnd : (Str.ofString "xkvjqgzwybhfpmucldnrsoiaet").cps.toList.Nodup := by decide +kernel
        have hlow : ∀ c ∈ (Str.ofString "xkvjqgzwybhfpmucldnrsoiaet").cps.toList, 97 ≤ c ∧ c ≤ 122 := low_of (by decide +kernel)
        have h26 : (Str.ofString "xkvjqgzwybhfpmucldnrsoiaet").length = 26 := by decide +kernel
        generalize (Str.ofString "xkvjqgzwybhfpmucldnrsoiaet") = zz at hnd hlow h26
        have hz26 : zz.cps.size = 26 := h26
        refine ⟨_, rfl, fun D hD => lc_it (walk_str (z := zz)) (fun i H' => At b (upd G D (.lst (((zz.cps.toList.take i).filter fun c => !inV (.str ⟨#[c]⟩) (ts.map V.str)).map fun c => V.str ⟨#[c]⟩))) H') (hA.new hD) (fun _ _ _ _ => True.intro) (fun i v H3 H4 hi hp hy => ?_) (fun H' hp => ?_)⟩
        · obtain ⟨rfl, c, hc, rfl⟩ := hy
          have hDG : G D = none := hA.nh hD
          have hT3 : (upd G D (.lst (((zz.cps.toList.take i).filter fun c => !inV (.str ⟨#[c]⟩) (ts.map V.str)).map fun c => V.str ⟨#[c]⟩))) tk = some (.lst (ts.map V.str)) := (upd_ne (ne_of_none hT hDG)).trans hT
          have hc' : zz.cps.toList[i]? = some c := by rw [Array.getElem?_toList]; exact hc
          refine ⟨rfl, _, rfl, _, rfl, tk, ts.map V.str, rfl, .inl (sq_of (hp.ex _ _ hT3)), rfl, flat_strs ts, _, rfl, ite2 (fun hb => ?_) (fun hb => ?_)⟩
          · have hb : (!inV (.str ⟨#[c]⟩) (ts.map V.str)) = true := hb
            refine ⟨_, rfl, _, hp.ex _ _ upd_same, ?_, ?_⟩
            · rw [List.length_map]
              refine sz_lt (Nat.lt_of_le_of_lt (List.length_filter_le _ _) ?_)
              rw [List.length_take]
              omega
            · have e : ((zz.cps.toList.take (i + 1)).filter fun c => !inV (.str ⟨#[c]⟩) (ts.map V.str)) = ((zz.cps.toList.take i).filter fun c => !inV (.str ⟨#[c]⟩) (ts.map V.str)) ++ [c] := by
                rw [List.take_add_one, hc', List.filter_append]
                show _ ++ List.filter _ [c] = _
                rw [List.filter_cons, if_pos hb]
                rfl
              rw [e, List.map_append]
              exact hp.put
          · have hb : ¬ (!inV (.str ⟨#[c]⟩) (ts.map V.str)) = true := hb
            have e : ((zz.cps.toList.take (i + 1)).filter fun c => !inV (.str ⟨#[c]⟩) (ts.map V.str)) = ((zz.cps.toList.take i).filter fun c => !inV (.str ⟨#[c]⟩) (ts.map V.str)) := by
              rw [List.take_add_one, hc', List.filter_append]
              show _ ++ List.filter _ [c] = _
              rw [List.filter_cons, if_neg hb]
              exact List.append_nil _
            show At b (upd G D (.lst (((zz.cps.toList.take (i + 1)).filter fun c => !inV (.str ⟨#[c]⟩) (ts.map V.str)).map fun c => V.str ⟨#[c]⟩))) H4
            rw [e]
            exact hp
        · rw [List.take_of_length_le (by rw [Array.length_toList]; exact Nat.le_refl _)] at hp
          have hne := free_sign (ts := ts) hnd (by omega)
          have hlow2 : ∀ c ∈ zz.cps.toList.filter (fun c => !inV (.str ⟨#[c]⟩) (ts.map V.str)), 97 ≤ c ∧ c ≤ 122 := fun c hc => hlow c (List.mem_filter.mp hc).1
          revert hp hne hlow2
          generalize (zz.cps.toList.filter fun c => !inV (.str ⟨#[c]⟩) (ts.map V.str)) = fl
          intro hp hne hlow2
          cases fl with
          | nil => exact absurd rfl hne
          | cons c r =>
            refine ⟨D, _, 0, .str ⟨#[c]⟩, rfl, rfl, sq_of (hp.ex _ _ upd_same), at_of (j := 0) rfl rfl, _, rfl, q _ _ ?_ (hp.weak (Ex.new (hA.nh hD)))⟩
            refine ⟨Nat.le_refl 1, (show 1 ≤ 6 by decide), fun x hx => ?_⟩
            have hx : x ∈ [c] := hx
            rw [List.mem_singleton.mp hx]
            exact hlow2 c List.mem_cons_self
      · exact ⟨_, rfl, q z _ hz hA⟩
end
end Eyes

set_option Elab.async false
set_option linter.all false
set_option maxRecDepth 100000
set_option maxHeartbeats 4000000
namespace Eyes
open PySem PySem.Spec PyProof.Rows L2 Evl TL
def spTtls : Sp := fun vs H Q _ => ∃ (b : Addr) (z : Int) (G : Hp), vs = [.ref b, .int z] ∧ At b G H ∧ 0 ≤ z ∧ z ≤ 21 ∧ ∀ (l : Addr) (ts : List Str) (H' : Hp), G l = none → At b (upd G l (.lst (ts.map V.str))) H' → (ts.length : Int) = z → (∀ t ∈ ts, nm t) → Q (.ref l) H'
theorem cutS_to (x : Str) (k : Nat) : cutS x none (some (k : Int)) = ⟨((tl x).take k).toArray⟩ := by
  refine ext_tl ?_
  show (x.cps.toList.drop _).take _ = (tl x).take k
  rw [HT.sIx_none, HT.sIx_nat, List.drop_zero, Nat.sub_zero]
  have hl : x.cps.toList.length = x.length := Array.length_toList
  rcases Nat.le_total k x.length with h | h
  · rw [Nat.min_eq_left h]
  · rw [Nat.min_eq_right h, List.take_of_length_le (by omega)]
    show _ = x.cps.toList.take k
    rw [List.take_of_length_le (by omega)]
theorem cutS_from (x : Str) (k : Nat) : cutS x (some (k : Int)) none = ⟨((tl x).drop k).toArray⟩ := by
  refine ext_tl ?_
  show (x.cps.toList.drop _).take _ = (tl x).drop k
  rw [HT.sIx_none, HT.sIx_nat]
  have hl : x.cps.toList.length = x.length := Array.length_toList
  rw [List.take_of_length_le (by rw [List.length_drop]; omega)]
  rcases Nat.le_total k x.length with h | h
  · rw [Nat.min_eq_left h]
  · rw [Nat.min_eq_right h, List.drop_of_length_le (by omega)]
    show _ = x.cps.toList.drop k
    rw [List.drop_of_length_le (by omega)]
section
variable {P : Program} {w : World} {K : PySem.W.Frag} {mg : Str → Option Value} {base : Heap} {AA : Adr}
theorem ok_law_titles (T : Txt K mg AA) : Pr P w K mg base "_law_titles" s_law_titles p_law_titles 4 spTtls := by
  refine pr_mk T.f_law_titles sc_law_titles (fun vs H Q E h => ?_) (fun f cdv A outer s H vs Q E hr h => ?_)
  · obtain ⟨b, z, G, rfl, _⟩ := h
    rfl
  · obtain ⟨b, z, G, rfl, hA, hz0, hz1, q⟩ := h
    refine ⟨_, (pss_cons (ps_set (i := 2) sc_law_titles.nd rfl (.inl rfl) (pe_lst pa_nil))
      (pss_cons (ps_if (pt_cmpR op_eq (pcall (ok_law_draw T) hr (pa_cons (pv 0) (pa_cons pe_int pa_nil))) pe_int (nomark _))
      (pss_cons (ps_set (i := 4) sc_law_titles.nd rfl (.inl rfl) (pe_join pe_str (pe_lc (own := [("_law_k", 3)]) (g := gName 3) (tt := tYes) rfl sc_law_titles.nd (pi_range1 (by rfl) T.n_range (pa_cons (pcall (ok_law_draw T) hr (pa_cons (pv 0) (pa_cons pe_int pa_nil))) pa_nil)) (blkOk_by (own := [("_law_k", 3)]) (N := n_law_titles) (sc := defScope s_law_titles) (by decide +kernel)) (fun _ _ _ _ _ => (pg_name (i := 3) sc_law_titles.nd rfl (.inl rfl))) (fun _ _ _ _ _ => pts_nil) (fun _ _ _ _ _ => (pcall (ok_law_of T) hr (pa_cons (pv 0) (pa_cons pe_str pa_nil)))))))
      (pss_cons (ps_par (i := 5) (j := 6) rfl sc_law_titles.nd rfl rfl (by decide) rfl rfl (pa_cons (pcall (ok_law_draw T) hr (pa_cons (pv 0) (pa_cons (pe_op op_add (pe_callB call_len_str (by rfl) T.n_len PySem.boot_len (pa_cons (pv 4) pa_nil)) pe_int) pa_nil))) (pa_cons (pcall (ok_law_draw T) hr (pa_cons (pv 0) (pa_cons pe_int pa_nil))) pa_nil)) rfl)
      (pss_cons (ps_for PassesOwn.never rfl (pi_range1 (by rfl) T.n_range (pa_cons (pv 1) pa_nil)) (pg_name (i := 3) sc_law_titles.nd rfl (.inl rfl))
      (pss_one (ps_expr (pe_bm PySem.F.plainAttrs_list PySem.F.slot_list_append PySem.F.type_list_append mt_append (pv 2) (pa_cons (pe_op op_add_str (pe_op op_add_str (pe_slice sl_str (pv 4) po_none (po_some (pv 5))) (pe_ix ix_str pe_str (pe_op op_mod (pe_callTy call_int1 (by rfl) T.n_int PyProof.Rows.boot_int (pa_cons (pe_op op_add (pv 6) (pe_op op_mul pe_int (pv 3))) pa_nil)) pe_int) (fun _ _ => rfl))) (pe_slice sl_str (pv 4) (po_some (pv 5)) po_none)) pa_nil)))))
      (pss_one (ps_ret (pv 2))))))
      pss_nil)
      (pss_cons (ps_for PassesOwn.never rfl (pi_range1 (by rfl) T.n_range (pa_cons (pv 1) pa_nil)) (pg_name (i := 3) sc_law_titles.nd rfl (.inl rfl))
      (pss_one (ps_expr (pe_bm PySem.F.plainAttrs_list PySem.F.slot_list_append PySem.F.type_list_append mt_append (pv 2) (pa_cons (pcall (ok_law_title T) hr (pa_cons (pv 0) (pa_cons (pv 2) pa_nil))) pa_nil)))))
      (pss_one (ps_ret (pv 2)))))), ?_⟩
    refine ⟨by show 0 ≤ sizeLine; decide, fun l hl => ?_⟩
    have hGl := hA.nh hl
    have hA0 : At b (upd G l (.lst (([] : List Str).map V.str))) (upd H l (.lst [])) := hA.new hl
    refine ⟨_, rfl, b, 3, _, rfl, hA0, by decide, by decide, fun tn H1 t0 t1 hA1 => ⟨rfl, _, rfl, ite2 (fun hb => ?_) (fun hb => ?_)⟩⟩
    · have hlowS : ∀ c ∈ (Str.ofString "tfkqzjbxhcwgmvyonpsrdlieua").cps.toList, 97 ≤ c ∧ c ≤ 122 := low_of (by decide +kernel)
      have hlowQ : ∀ c ∈ (Str.ofString "qazwsxedcrfvtgbyhnujmikolp").cps.toList, 97 ≤ c ∧ c ≤ 122 := low_of (by decide +kernel)
      have hlenQ : (Str.ofString "qazwsxedcrfvtgbyhnujmikolp").length = 26 := by decide +kernel
      have hSeq : SeqV K (upd G l (.lst (([] : List Str).map V.str))) (.str (Str.ofString "tfkqzjbxhcwgmvyonpsrdlieua")) ((Str.ofString "tfkqzjbxhcwgmvyonpsrdlieua").cps.toList.map fun c => V.str ⟨#[c]⟩) := .inr (.inr ⟨_, rfl, by decide +kernel, rfl⟩)
      have hlenS : (Str.ofString "tfkqzjbxhcwgmvyonpsrdlieua").length = 26 := by decide +kernel
      generalize (Str.ofString "tfkqzjbxhcwgmvyonpsrdlieua") = zs at hlowS hSeq hlenS
      generalize (Str.ofString "qazwsxedcrfvtgbyhnujmikolp") = zq at hlowQ hlenQ
      have hzs : (zs.cps.toList.map fun c => V.str ⟨#[c]⟩).length = 26 := by
        rw [List.length_map, Array.length_toList]
        exact hlenS
      refine ⟨⟨_, rfl⟩, _, rfl, b, 6, _, rfl, hA1, by decide, by decide, fun sz H2 z0 z1 hA2 => ⟨_, rfl, by omega, by omega, fun D hD => lc_it walk_range (fun i H' => ∃ cs : List Nat, cs.length = i ∧ (∀ c ∈ cs, 97 ≤ c ∧ c ≤ 122) ∧ At b (upd (upd G l (.lst (([] : List Str).map V.str))) D (.lst (cs.map fun c => V.str ⟨#[c]⟩))) H')
          ⟨[], rfl, (fun c hc => by cases hc), hA2.new hD⟩ (fun _ _ _ _ => True.intro) (fun i v H3 H4 hi hp hy => ?_) (fun H' hp => ?_)⟩⟩
      · obtain ⟨rfl, rfl⟩ := hy
        obtain ⟨cs, hl, hc, hA3⟩ := hp
        refine ⟨rfl, ?_⟩
        refine ⟨_, rfl, b, _, _, _, rfl, hA3, hSeq.mono (Ex.new (hA2.nh hD)), by omega, by omega, fun v H5 hv hA5 => ?_⟩
        obtain ⟨c, hcm, rfl⟩ := List.mem_map.mp hv
        refine ⟨_, hA5.ex _ _ upd_same, ?_, cs ++ [c], by simp [hl], ?_, ?_⟩
        · rw [List.length_map]
          exact sz_lt (by omega)
        · intro d hd
          rcases List.mem_append.mp hd with h | h
          · exact hc d h
          · rw [List.mem_singleton.mp h]
            exact hlowS c hcm
        · rw [List.map_append]
          exact hA5.put
      · obtain ⟨cs, hl, hc, hA3⟩ := hp
        have hlen : cs.length ≤ 5 := by omega
        refine ⟨"", D, cs.map fun c => ⟨#[c]⟩, rfl, rfl, .inl (sq_of ((hA3.ex _ _ upd_same).trans (by rw [List.map_map]; rfl))), sum_signs (by omega), ?_⟩
        have hst : tl (Txt.join ("" : Str) (cs.map fun c => ⟨#[c]⟩)) = cs := join_signs cs
        generalize Txt.join ("" : Str) (cs.map fun c => ⟨#[c]⟩) = st at hst
        have hA4 := hA3.weak (Ex.new (hA2.nh hD))
        have hstl : st.length ≤ 5 := by rw [len_tl, hst]; exact hlen
        refine ⟨_, rfl, _, rfl, st, rfl, sz_of (by omega), _, _, rfl, rfl, b, _, _, rfl, hA4, by omega, by omega, fun sp H5 sp0 sp1 hA5 => ?_⟩
        refine ⟨_, rfl, b, 26, _, rfl, hA5, by decide, by decide, fun bg H6 bg0 bg1 hA6 => ⟨_, _, rfl, ?_⟩⟩
        refine ⟨_, rfl, z, rfl, by omega, by omega, ?_⟩
        refine for_it walk_range (fun i σ H' => ∃ (ts : List Str) (y3 : Option V), σ = [some (.ref b), some (.int z), some (.ref l), y3, some (.str st), some (.int sp), some (.int bg)] ∧ ts.length = i ∧ (∀ t ∈ ts, nm t) ∧ At b (upd G l (.lst (ts.map V.str))) H') ⟨[], _, rfl, rfl, (fun t ht => by cases ht), hA6⟩ (fun _ _ _ _ _ => True.intro) (fun i v σ H3 H4 hi hp hy => ?_) (fun σ H' hp => ?_)
        · obtain ⟨rfl, rfl⟩ := hy
          obtain ⟨ts, y3, rfl, hlen2, hnm, hA7⟩ := hp
          refine ⟨_, rfl, .inl ⟨rfl, _, sq_of (hA7.ex _ _ upd_same)⟩, ?_⟩
          have hm0 : 0 ≤ (bg + 5 * (0 + (i : Int))) % 26 := Int.emod_nonneg _ (by decide)
          have hm1 : (bg + 5 * (0 + (i : Int))) % 26 < 26 := Int.emod_lt_of_pos _ (by decide)
          have hsz : zq.cps.toList.length = 26 := by rw [Array.length_toList]; exact hlenQ
          obtain ⟨ix, hix⟩ : ∃ ix, ix = (bg + 5 * (0 + (i : Int))) % 26 := ⟨_, rfl⟩
          rw [← hix] at hm0 hm1
          have hlt : ix.toNat < zq.cps.toList.length := by omega
          have hget := List.getElem?_eq_getElem hlt
          have hcl := hlowQ _ (List.getElem_mem hlt)
          generalize zq.cps.toList[ix.toNat] = c at hget hcl
          have hspn : sp = (sp.toNat : Int) := by omega
          have e1 : tl (cutS st none (some sp)) = cs.take sp.toNat := by rw [hspn, cutS_to, hst]; rfl
          have e2 : tl (cutS st (some sp) none) = cs.drop sp.toNat := by rw [hspn, cutS_from, hst]; rfl
          have l1 : (cutS st none (some sp)).length ≤ 5 := by
            rw [len_tl, e1, List.length_take]
            omega
          have l2 : (cutS st (some sp) none).length ≤ 5 := by
            rw [len_tl, e2, List.length_drop]
            omega
          have lc : (⟨#[c]⟩ : Str).length = 1 := rfl
          have nt : nm ((cutS st none (some sp) ++ ⟨#[c]⟩) ++ cutS st (some sp) none) := by
            have e3 : tl ((cutS st none (some sp) ++ ⟨#[c]⟩) ++ cutS st (some sp) none) = (cs.take sp.toNat ++ [c]) ++ cs.drop sp.toNat := by
              rw [tl_append, tl_append, e1, e2]
            have e4 : ((cs.take sp.toNat ++ [c]) ++ cs.drop sp.toNat).length = cs.length + 1 := by
              rw [List.length_append, List.length_append, List.length_take, List.length_drop, List.length_singleton]
              have := Nat.min_le_right sp.toNat cs.length
              omega
            refine ⟨by rw [len_tl, e3, e4]; omega, by rw [len_tl, e3, e4]; omega, fun x hx => ?_⟩
            rw [e3] at hx
            rcases List.mem_append.mp hx with hx | hx
            · rcases List.mem_append.mp hx with hx | hx
              · exact hc x (List.mem_of_mem_take hx)
              · rw [List.mem_singleton.mp hx]
                exact hcl
            · exact hc x (List.mem_of_mem_drop hx)
          refine ⟨_, rfl, _, rfl, sp, rfl, st, rfl, sz_of (by omega), ?_⟩
          refine ⟨_, rfl, _, rfl, 5, _, rfl, rfl, .inl ⟨by decide, by decide⟩, bg, _, rfl, rfl, .inl ⟨_, rfl, _, 26, rfl, rfl, (show (0 : Int) < 26 by decide), ?_⟩⟩
          refine ⟨zq, _, c, rfl, rfl, sz_of (by have : zq.length = 26 := hlenQ; omega), at_of' (by rw [← hix]; exact hm0) (by rw [← hix]; exact hget), _, _, rfl, rfl, sz_of (by omega), ?_⟩
          refine ⟨_, rfl, _, rfl, sp, rfl, st, rfl, sz_of (by omega), _, _, rfl, rfl, sz_of ?_, ?_⟩
          · rw [len_tl, tl_append, List.length_append, ← len_tl, ← len_tl]
            omega
          · refine ⟨l, _, _, rfl, rfl, hA7.ex _ _ upd_same, sz_lt (by rw [List.length_map]; omega), ts ++ [(cutS st none (some sp) ++ ⟨#[c]⟩) ++ cutS st (some sp) none], _, rfl, by simp [hlen2], ?_, ?_⟩
            · intro x hx
              rcases List.mem_append.mp hx with h | h
              · exact hnm x h
              · rw [List.mem_singleton.mp h]
                exact nt
            · rw [List.map_append]
              exact hA7.put
        · obtain ⟨ts, y3, rfl, hlen2, hnm, hA7⟩ := hp
          exact ⟨_, rfl, q l ts H' hGl hA7 (by omega) hnm⟩
    · refine ⟨_, rfl, z, rfl, by omega, by omega, ?_⟩
      refine for_it walk_range (fun i σ H' => ∃ (ts : List Str) (y3 y4 y5 y6 : Option V), σ = [some (.ref b), some (.int z), some (.ref l), y3, y4, y5, y6] ∧ ts.length = i ∧ (∀ t ∈ ts, nm t) ∧ At b (upd G l (.lst (ts.map V.str))) H') ⟨[], none, none, none, none, rfl, rfl, (fun t ht => by cases ht), hA1⟩ (fun _ _ _ _ _ => True.intro) (fun i v σ H3 H4 hi hp hy => ?_) (fun σ H' hp => ?_)
      · obtain ⟨rfl, rfl⟩ := hy
        obtain ⟨ts, y3, y4, y5, y6, rfl, hlen, hnm, hA2⟩ := hp
        refine ⟨_, rfl, .inl ⟨rfl, _, sq_of (hA2.ex _ _ upd_same)⟩, _, rfl, _, rfl, b, l, _, ts, rfl, hA2, upd_same, by omega, fun t H5 ht hA3 => ?_⟩
        refine ⟨l, _, _, rfl, rfl, hA3.ex _ _ upd_same, sz_lt (by rw [List.length_map]; omega), ts ++ [t], _, _, _, _, rfl, by simp [hlen], ?_, ?_⟩
        · intro x hx
          rcases List.mem_append.mp hx with h | h
          · exact hnm x h
          · rw [List.mem_singleton.mp h]
            exact ht
        · rw [List.map_append]
          exact hA3.put
      · obtain ⟨ts, y3, y4, y5, y6, rfl, hlen, hnm, hA2⟩ := hp
        exact ⟨_, rfl, q l ts H' hGl hA2 (by omega) hnm⟩
end
end Eyes

set_option Elab.async false
set_option linter.all false
set_option maxRecDepth 100000
set_option maxHeartbeats 4000000
namespace Eyes
open PySem PySem.Spec PyProof.Rows L2 Evl TL
theorem At.all {b : Addr} {G H0 H : Hp} (h : At b G H0) (e : Ex H0 H) : ∃ G', At b G' H ∧ Ex G G' ∧ ∀ a, (∀ xs, H0 a ≠ some (.lst xs)) → G' a = H a := by
  obtain ⟨c, ns, i, r, m, n, B⟩ := h
  refine ⟨fun a => if a = b ∨ a = c then none else H a, ⟨c, ns, i, r, m, n, if_pos (.inl rfl), if_pos (.inr rfl), fun a o ha => ?_, e _ _ B.at_, e _ _ B.cells, B.ne, B.i0, B.r0, B.m0, B.m1⟩, fun a o ha => ?_, fun a ha => ?_⟩
  · by_cases hab : a = b ∨ a = c
    · rw [show (if a = b ∨ a = c then none else H a) = none from if_pos hab] at ha
      cases ha
    · rw [show (if a = b ∨ a = c then none else H a) = H a from if_neg hab] at ha
      exact ha
  · have hab : ¬ (a = b ∨ a = c) := by
      rintro (rfl | rfl)
      · rw [B.nb] at ha
        cases ha
      · rw [B.nc] at ha
        cases ha
    exact (show (if a = b ∨ a = c then none else H a) = H a from if_neg hab).trans (e _ _ (B.ex _ _ ha))
  · refine if_neg ?_
    rintro (rfl | rfl)
    · exact ha _ B.at_
    · exact ha _ B.cells
mutual
theorem Rep.tups {H H' : Hp} (e : ∀ a xs, H a = some (.tup xs) → H' a = some (.tup xs)) : ∀ {c : Ci} {v : V}, Rep H v c.data → Rep H' v c.data
  | .eye n, v, h => by
    have h : Rep H v (.tuple [.str "eye", .str n]) := h
    cases h with
    | tup h r =>
      cases r with
      | cons h1 r =>
        cases r with
        | cons h2 r =>
          cases r
          cases h1
          cases h2
          exact .tup (e _ _ h) (.cons (.str _) (.cons (.str _) .nil))
  | .node k ps, v, h => by
    have h : Rep H v (.tuple [.str (kindS k), .tuple (datas ps)]) := h
    cases h with
    | tup h r =>
      cases r with
      | cons h1 r =>
        cases r with
        | cons h2 r =>
          cases r
          cases h1
          cases h2 with
          | tup h3 r3 => exact .tup (e _ _ h) (.cons (.str _) (.cons (.tup (e _ _ h3) (Reps.tups e r3)) .nil))
theorem Reps.tups {H H' : Hp} (e : ∀ a xs, H a = some (.tup xs) → H' a = some (.tup xs)) : ∀ {cs : List Ci} {vs : List V}, Reps H vs (datas cs) → Reps H' vs (datas cs)
  | [], vs, h => by
    have h : Reps H vs [] := h
    cases h
    exact .nil
  | c :: r, vs, h => by
    have h : Reps H vs (c.data :: datas r) := h
    cases h with
    | cons h1 h2 => exact .cons (Rep.tups e h1) (Reps.tups e h2)
end
theorem At.node {b : Addr} {G H0 H : Hp} {v : V} {c : Ci} (h : At b G H0) (e : Ex H0 H) (hv : Rep H v c.data) : ∃ G', At b G' H ∧ Ex G G' ∧ Rep G' v c.data := by
  obtain ⟨G', h1, h2, h3⟩ := h.all e
  refine ⟨G', h1, h2, hv.tups fun a xs ha => ?_⟩
  rw [h3 a fun ys hy => ?_]
  · exact ha
  · rw [e _ _ hy] at ha
    cases ha
theorem upd_self {G : Hp} {p : Addr} {o : HO} (h : G p = some o) : upd G p o = G := by
  funext a
  by_cases e : a = p
  · subst e
    rw [upd_same, h]
  · exact upd_ne e
theorem At.put' {b : Addr} {G H : Hp} {p : Addr} {o o' : HO} (h : At b G H) (hp : G p = some o) : At b (upd G p o') (upd H p o') := by
  have h2 : At b (upd G p o) H := by rw [upd_self hp]; exact h
  exact h2.put
def spNode (n : Nat) : Sp := fun vs H Q _ => ∃ (b tl : Addr) (d : Nat) (G : Hp) (ts : List Str), vs = [.ref b, .ref tl, .int d] ∧ At b G H ∧ G tl = some (.lst (ts.map V.str)) ∧ ts ≠ [] ∧ ts.length ≤ 1000 ∧ (∀ t ∈ ts, nm t) ∧ d < n ∧ d ≤ 8 ∧
  ∀ (v : V) (c : Ci) (G' H' : Hp), Ex G G' → At b G' H' → Rep G' v c.data → c.norm → c.depth ≤ d → c.size ≤ 3 ^ d → Q v H'
section
variable {P : Program} {w : World} {K : PySem.W.Frag} {mg : Str → Option Value} {base : Heap} {AA : Adr}
end
end Eyes

set_option Elab.async false
set_option linter.all false
set_option maxRecDepth 100000
set_option maxHeartbeats 4000000
namespace Eyes
open PySem PySem.Spec PyProof.Rows L2 Evl TL
def spLadder : Sp := fun vs H Q _ => ∃ (b tl : Addr) (d : Nat) (G : Hp) (ts : List Str), vs = [.ref b, .ref tl, .int d] ∧ At b G H ∧ G tl = some (.lst (ts.map V.str)) ∧ ts ≠ [] ∧ ts.length ≤ 1000 ∧ (∀ t ∈ ts, nm t) ∧ d ≤ 24 ∧
  ∀ (v : V) (c : Ci) (G' H' : Hp), Ex G G' → At b G' H' → Rep G' v c.data → c.norm → c.depth ≤ d → c.size ≤ d + 1 → Q v H'
section
variable {P : Program} {w : World} {K : PySem.W.Frag} {mg : Str → Option Value} {base : Heap} {AA : Adr}
end
end Eyes

set_option Elab.async false
set_option linter.all false
set_option maxRecDepth 100000
set_option maxHeartbeats 4000000
namespace Eyes
open PySem PySem.Spec PyProof.Rows L2 Evl TL
section
variable {P : Program} {w : World} {K : PySem.W.Frag} {mg : Str → Option Value} {base : Heap} {AA : Adr}
theorem ok_law_size (T : Txt K mg AA) : ∀ n : Nat, Pr P w K mg base "_law_size" s_law_size p_law_size n (spNumC Ci.size n)
  | 0 => by
    obtain ⟨f, fd, F, hb, hm⟩ := T.f_law_size
    exact ⟨f, fd, hm, F, hb, fun vs H Q E h => by
      obtain ⟨x, d, _, _, h, _⟩ := h
      omega, fun A outer s H args us vs Q E _ _ _ _ h => by
      obtain ⟨x, d, _, _, h, _⟩ := h
      omega⟩
  | n + 1 => by
    have G := ok_law_size T n
    refine pr_mk T.f_law_size sc_law_size (fun vs H Q E h => ?_) (fun f cdv A outer s H vs Q E hr h => ?_)
    · obtain ⟨v, c, rfl, _⟩ := h
      rfl
    · obtain ⟨v, c, rfl, hA, hd, hf, q⟩ := h
      refine ⟨_, (pss_one (ps_ret (pe_ifExp (pt_cmpR op_eq (pe_ix (ix_tupK (K := K) rfl) (pv 0) pe_int (fun _ _ => rfl)) pe_str (nomark _)) pe_int (pe_callB (cr_sum rfl) (by rfl) T.n_sum PyProof.Rows.boot_sum (pa_cons (pe_lc (own := [("_law_x", 1)]) (g := gName 1) (tt := tYes) rfl sc_law_size.nd (pi_tup (pe_ix (ix_tupK (K := K) rfl) (pv 0) pe_int (fun _ _ => rfl))) (blkOk_by (own := [("_law_x", 1)]) (N := n_law_size) (sc := defScope s_law_size) (by decide +kernel)) (fun _ _ _ _ _ => (pg_name (i := 1) sc_law_size.nd rfl (.inl rfl))) (fun _ _ _ _ _ => pts_nil) (fun _ _ _ _ _ => (pcall G hr (pa_cons (pv 1) pa_nil)))) pa_nil))))), ?_⟩
      obtain ⟨a, x, rfl, ha, hx1, hx2⟩ := hA.node
      refine ⟨_, rfl, a, _, 0, _, rfl, rfl, st_of ha, rfl, rfl, _, rfl, ?_⟩
      cases c with
      | eye z =>
        refine iteT ?_
        exact q _ (Ex.refl _)
      | node k ps =>
        have e2 : (decide ((V.str (Ci.node k ps).kind) = V.str (Str.ofString "eye"))) = false := decide_eq_false fun h => kindS_eye k (V.str.inj h)
        rw [e2]
        refine iteF ?_
        obtain ⟨b, ws, rfl, hb, hr2⟩ := hx2 k ps rfl
        have hwl := hr2.lengthC
        have hs : sizes ps ≤ 9000 := hf.2
        have hdn : 1 + depths ps < n + 1 := hd
        have hpf : ∀ c ∈ ps, c.big := fun c hc => parts_big hf (show c ∈ (Ci.node k ps).parts from hc)
        have hpn : ps.length ≤ 9000 := Nat.le_trans (sizes_len ps hf.1.2) hs
        have hne : ps ≠ [] := fun e => by
          have h2 : 2 ≤ ps.length := hf.1.1
          rw [e] at h2
          exact absurd h2 (by decide)
        refine ⟨_, rfl, a, _, 1, _, rfl, rfl, st_of ha, rfl, b, rfl, ⟨ws, st_of hb⟩, fun D hD => lc_it (walk_tup (xs := ws)) (fun i H' => H D = none ∧ Ex H H' ∧ H' D = some (.lst ((ps.take i).map fun c => V.int (c.size : Nat)))) ⟨hD, Ex.new hD, upd_same⟩ (fun _ _ _ hp => st_of (hp.2.1 _ _ hb)) (fun i v H3 H4 hi hp hy => ?_) (fun H' hp => ?_)⟩
        · obtain ⟨rfl, hv⟩ := hy
          obtain ⟨c, hc, hAc⟩ := hr2.getC hv
          obtain ⟨h1, h2, h3⟩ := hp
          have hcm := List.mem_of_getElem? hc
          have hcd := depths_le hcm
          refine ⟨rfl, _, rfl, v, c, rfl, hAc.mono h2, by omega, hpf c hcm, fun H5 e5 => ⟨_, e5 _ _ h3, ?_, h1, (h2.trans e5).mut h1, ?_⟩⟩
          · rw [List.length_map, List.length_take]
            exact sz_lt (by omega)
          · rw [upd_same, List.take_add_one, hc, List.map_append]
            rfl
        · obtain ⟨h1, h2, h3⟩ := hp
          rw [List.take_of_length_le (by rw [hwl]; exact Nat.le_refl _)] at h3
          refine ⟨D, ps.map fun c => ((c.size : Nat) : Int), rfl, sq_of (by rw [h3, List.map_map]; rfl), ?_⟩
          rw [← sizes_sum]
          exact q _ h2
theorem ok_law_depth (T : Txt K mg AA) : ∀ n : Nat, Pr P w K mg base "_law_depth" s_law_depth p_law_depth n (spNumC Ci.depth n)
  | 0 => by
    obtain ⟨f, fd, F, hb, hm⟩ := T.f_law_depth
    exact ⟨f, fd, hm, F, hb, fun vs H Q E h => by
      obtain ⟨x, d, _, _, h, _⟩ := h
      omega, fun A outer s H args us vs Q E _ _ _ _ h => by
      obtain ⟨x, d, _, _, h, _⟩ := h
      omega⟩
  | n + 1 => by
    have G := ok_law_depth T n
    refine pr_mk T.f_law_depth sc_law_depth (fun vs H Q E h => ?_) (fun f cdv A outer s H vs Q E hr h => ?_)
    · obtain ⟨v, c, rfl, _⟩ := h
      rfl
    · obtain ⟨v, c, rfl, hA, hd, hf, q⟩ := h
      refine ⟨_, (pss_one (ps_ret (pe_ifExp (pt_cmpR op_eq (pe_ix (ix_tupK (K := K) rfl) (pv 0) pe_int (fun _ _ => rfl)) pe_str (nomark _)) pe_int (pe_op op_add pe_int (pe_callB (cr_max rfl) (by rfl) T.n_max PyProof.Rows.boot_max (pa_cons (pe_lc (own := [("_law_x", 1)]) (g := gName 1) (tt := tYes) rfl sc_law_depth.nd (pi_tup (pe_ix (ix_tupK (K := K) rfl) (pv 0) pe_int (fun _ _ => rfl))) (blkOk_by (own := [("_law_x", 1)]) (N := n_law_depth) (sc := defScope s_law_depth) (by decide +kernel)) (fun _ _ _ _ _ => (pg_name (i := 1) sc_law_depth.nd rfl (.inl rfl))) (fun _ _ _ _ _ => pts_nil) (fun _ _ _ _ _ => (pcall G hr (pa_cons (pv 1) pa_nil)))) pa_nil)))))), ?_⟩
      obtain ⟨a, x, rfl, ha, hx1, hx2⟩ := hA.node
      refine ⟨_, rfl, a, _, 0, _, rfl, rfl, st_of ha, rfl, rfl, _, rfl, ?_⟩
      cases c with
      | eye z =>
        refine iteT ?_
        exact q _ (Ex.refl _)
      | node k ps =>
        have e2 : (decide ((V.str (Ci.node k ps).kind) = V.str (Str.ofString "eye"))) = false := decide_eq_false fun h => kindS_eye k (V.str.inj h)
        rw [e2]
        refine iteF ?_
        obtain ⟨b, ws, rfl, hb, hr2⟩ := hx2 k ps rfl
        have hwl := hr2.lengthC
        have hs : sizes ps ≤ 9000 := hf.2
        have hdn : 1 + depths ps < n + 1 := hd
        have hpf : ∀ c ∈ ps, c.big := fun c hc => parts_big hf (show c ∈ (Ci.node k ps).parts from hc)
        have hpn : ps.length ≤ 9000 := Nat.le_trans (sizes_len ps hf.1.2) hs
        have hne : ps ≠ [] := fun e => by
          have h2 : 2 ≤ ps.length := hf.1.1
          rw [e] at h2
          exact absurd h2 (by decide)
        refine ⟨_, rfl, a, _, 1, _, rfl, rfl, st_of ha, rfl, b, rfl, ⟨ws, st_of hb⟩, fun D hD => lc_it (walk_tup (xs := ws)) (fun i H' => H D = none ∧ Ex H H' ∧ H' D = some (.lst ((ps.take i).map fun c => V.int (c.depth : Nat)))) ⟨hD, Ex.new hD, upd_same⟩ (fun _ _ _ hp => st_of (hp.2.1 _ _ hb)) (fun i v H3 H4 hi hp hy => ?_) (fun H' hp => ?_)⟩
        · obtain ⟨rfl, hv⟩ := hy
          obtain ⟨c, hc, hAc⟩ := hr2.getC hv
          obtain ⟨h1, h2, h3⟩ := hp
          have hcm := List.mem_of_getElem? hc
          have hcd := depths_le hcm
          refine ⟨rfl, _, rfl, v, c, rfl, hAc.mono h2, by omega, hpf c hcm, fun H5 e5 => ⟨_, e5 _ _ h3, ?_, h1, (h2.trans e5).mut h1, ?_⟩⟩
          · rw [List.length_map, List.length_take]
            exact sz_lt (by omega)
          · rw [upd_same, List.take_add_one, hc, List.map_append]
            rfl
        · obtain ⟨h1, h2, h3⟩ := hp
          rw [List.take_of_length_le (by rw [hwl]; exact Nat.le_refl _)] at h3
          refine ⟨D, ps.map fun c => ((c.depth : Nat) : Int), rfl, sq_of (by rw [h3, List.map_map]; rfl), ?_, fun m hm hx => ⟨1, m, rfl, rfl, ?_⟩⟩
          · rw [List.length_map]
            exact List.length_pos_iff.mpr hne
          · have e : m = (depths ps : Int) := by
              obtain ⟨c, hc, rfl⟩ := List.mem_map.mp hm
              obtain ⟨d, hd, e⟩ := depths_mem hne
              have h5 := hx _ (List.mem_map.mpr ⟨d, hd, rfl⟩)
              have h6 := depths_le hc
              omega
            rw [e]
            have hdep : ((Ci.node k ps).depth : Int) = 1 + (depths ps : Int) := by
              show ((1 + depths ps : Nat) : Int) = _
              omega
            have q2 := q _ h2
            rw [hdep] at q2
            exact q2
end
end Eyes

set_option Elab.async false
set_option linter.all false
set_option maxRecDepth 100000
set_option maxHeartbeats 4000000
namespace Eyes
open PySem PySem.Spec PyProof.Rows L2 Evl TL
theorem it_by {J : It} {n : Nat} {G : Hp → Prop} {Y : Nat → Hp → V → Hp → Prop} (w : Walk J n G Y) {Qd : Hp → Prop} {B : V → Hp → (Hp → Prop) → Prop} {H0 : Hp} (Pv : Nat → Hp → Prop) (h0 : Pv 0 H0) (hG : ∀ i H, i ≤ n → Pv i H → G H)
    (hs : ∀ i x H H', i < n → Pv i H → Y i H x H' → B x H' (Pv (i + 1))) (hd : ∀ H, Pv n H → Qd H) :
    ∃ W : Nat → Nat → Hp → Prop, (∃ m, W 0 m H0) ∧ ∀ i m H, W i m H →
      (J.stop i H ∧ Qd H) ∨ (J.go i H ∧ ∃ Nx : Hp → Prop, (∀ H', Nx H' → ∃ m', m' < m ∧ W (i + 1) m' H') ∧ ∀ x H', J.yld i H x H' → B x H' Nx) := by
  refine ⟨fun i m H => m = n - i ∧ i ≤ n ∧ Pv i H, ⟨n, by simp, Nat.zero_le _, h0⟩, ?_⟩
  rintro i m H ⟨rfl, hi, p⟩
  have g := hG i H hi p
  by_cases hlt : i < n
  · exact .inr ⟨w.goes i H hlt g, Pv (i + 1), fun H' p' => ⟨n - (i + 1), by omega, rfl, hlt, p'⟩, fun x H' y => hs i x H H' hlt p (w.yields i H x H' hlt g y)⟩
  · have e : i = n := by omega
    subst e
    exact .inl ⟨w.stops H g, hd H p⟩
theorem sizes_app (a b : List Ci) : sizes (a ++ b) = sizes a + sizes b := by rw [← leavess_len, ← leavess_len, ← leavess_len, leavess_app, List.length_append]
def reprC (c : Ci) : Str := Str.empty ++ Str.ofString "Circle(" ++ c.str ++ Str.ofString ")"
def EqK (K : PySem.W.Frag) (C : Addr) (c : Ci) (H : Hp) (y : V) (b : Bool) : Prop :=
  (∃ d, CiAt C H y d ∧ b = decide (c.str = d.str)) ∨ (∃ z, y = .str z ∧ b = false) ∨ ∃ a zs, y = .ref a ∧ H a = some (.lst zs) ∧ b = false
def spEqC (K : PySem.W.Frag) (C : Addr) : Sp := fun vs H Q _ => ∃ (x y : V) (c : Ci) (b : Bool), vs = [x, y] ∧ CiAt C H x c ∧ EqK K C c H y b ∧ ∀ H', Ex H H' → Q (.bl b) H'
def spEyesC (C : Addr) (n : Nat) : Sp := fun vs H Q _ => ∃ (v : V) (c : Ci), vs = [v] ∧ CiAt C H v c ∧ c.depth < n ∧ c.fine ∧ ∀ (ys : List Str) (l : Addr) (H' : Hp), IsEyes c ys → H l = none → Ex H H' → H' l = some (.lst (ys.map V.str)) → Q (.ref l) H'
section
variable {P : Program} {w : World} {K : PySem.W.Frag} {mg : Str → Option Value} {base : Heap} {AA : Adr}
theorem ok_Circle___repr (T : Txt K mg AA) : PrM P w K mg base AA.Circle "__repr__" p_Circle___repr 1 (spCi AA.Circle (fun c => c.str.length ≤ 900) fun c => .str (reprC c)) := by
  refine prm_mk T.t_Circle___repr sc_Circle___repr (fun vs H Q E h => ?_) (fun f cdv A outer s H vs Q E hr h => ?_)
  · obtain ⟨v, c, rfl, _⟩ := h
    rfl
  · obtain ⟨v, c, rfl, hc, hz, q⟩ := h
    refine ⟨_, (pss_one (ps_ret (pe_joined (PJ.cons pe_str (PJ.cons (pe_fmt (pe_fldK (K := K) rfl (pv 0) rfl)) (PJ.cons pe_str PJ.nil)))))), ?_⟩
    obtain ⟨p, dx, l, us, rfl, hp, hl, hcs⟩ := hc.at_
    refine ⟨_, rfl, by decide +kernel, _, rfl, p, AA.Circle, dx, _, _, rfl, hp, T.c_Circle, T.a_Circle_text, fl_text, .inl ⟨c.str, rfl, ?_⟩⟩
    have hL : (Str.empty ++ Str.ofString "Circle(").length = 7 := by decide +kernel
    have hR : (Str.ofString ")").length = 1 := by decide +kernel
    have l1 : (Str.empty ++ Str.ofString "Circle(" ++ c.str).length = 7 + c.str.length := by
      rw [len_tl, tl_append, List.length_append, ← len_tl, ← len_tl, hL]
    refine ⟨sz_of (by omega), _, rfl, ?_, _, rfl, ?_, q _ (Ex.refl _)⟩
    · exact sz_of (by omega)
    · rw [len_tl, tl_append, List.length_append, ← len_tl, ← len_tl, l1, hR]
      exact sz_of (by omega)
theorem ok_Circle___eq (T : Txt K mg AA) : PrM P w K mg base AA.Circle "__eq__" p_Circle___eq 1 (spEqC K AA.Circle) := by
  refine prm_mk T.t_Circle___eq sc_Circle___eq (fun vs H Q E h => ?_) (fun f cdv A outer s H vs Q E hr h => ?_)
  · obtain ⟨x, y, c, b, rfl, _⟩ := h
    rfl
  · obtain ⟨x, y, c, b, rfl, hc, hy, q⟩ := h
    refine ⟨_, (pss_one (ps_ret (pe_and (pe_callB (call_isiK (K := K) rfl) (by rfl) T.n_isinstance PyProof.Rows.boot_isinstance (pa_cons (pv 1) (pa_cons (pe_glob (v := .ref AA.Circle) (by rfl) T.m_Circle rfl) pa_nil))) (pe_one (pe_cmpR op_eq (pe_fldK (K := K) rfl (pv 0) rfl) (pe_fldK (K := K) rfl (pv 1) rfl) (nomark _)))))), ?_⟩
    obtain ⟨p, dx, l, us, rfl, hp, hl, hcs⟩ := hc.at_
    rcases hy with ⟨d, hd, rfl⟩ | ⟨z, rfl, rfl⟩ | ⟨a, zs, rfl, ha, rfl⟩
    · obtain ⟨p2, dx2, l2, us2, rfl, hp2, hl2, hcs2⟩ := hd.at_
      refine ⟨_, rfl, _, _, _, _, _, rfl, .own _, .base (.ins hp2 T.c_Circle T.y_Circle.ty1 T.y_Circle.ty2 T.y_Circle.ty3 T.y_Circle.ty4), kit_self, ?_⟩
      refine ⟨_, rfl, iteT ?_⟩
      refine ⟨_, rfl, p, AA.Circle, dx, _, _, rfl, hp, T.c_Circle, T.a_Circle_text, fl_text, _, rfl, p2, AA.Circle, dx2, _, _, rfl, hp2, T.c_Circle, T.a_Circle_text, fl_text, rfl, ?_⟩
      have e : decide (V.str c.str = V.str d.str) = decide (c.str = d.str) := by
        by_cases h : c.str = d.str
        · rw [h, decide_eq_true rfl, decide_eq_true rfl]
        · rw [decide_eq_false h, decide_eq_false fun g => h (V.str.inj g)]
      rw [e]
      exact q _ (Ex.refl _)
    · refine ⟨_, rfl, _, _, _, _, _, rfl, .own _, .base (.str z), T.kc_str, ?_⟩
      exact ⟨_, rfl, iteF (q _ (Ex.refl _))⟩
    · refine ⟨_, rfl, _, _, _, _, _, rfl, .own _, .base (.lst ha), T.kc_list, ?_⟩
      exact ⟨_, rfl, iteF (q _ (Ex.refl _))⟩
theorem ok_Circle_eyes (T : Txt K mg AA) : ∀ n : Nat, PrM P w K mg base AA.Circle "eyes" p_Circle_eyes n (spEyesC AA.Circle n)
  | 0 => by
    obtain ⟨f, fd, M, F, hb⟩ := T.t_Circle_eyes
    exact ⟨f, fd, M, hb, fun vs H Q E h => by
      obtain ⟨x, d, _, _, h, _⟩ := h
      omega, fun A outer s H args us vs Q E _ _ _ _ h => by
      obtain ⟨x, d, _, _, h, _⟩ := h
      omega⟩
  | n + 1 => by
    have G := ok_Circle_eyes T n
    refine prm_mk T.t_Circle_eyes sc_Circle_eyes (fun vs H Q E h => ?_) (fun f cdv A outer s H vs Q E hr h => ?_)
    · obtain ⟨v, c, rfl, _⟩ := h
      rfl
    · obtain ⟨v, c, rfl, hc, hd, hf, q⟩ := h
      refine ⟨_, (pss_cons (ps_if (pt_cmpR op_eq (pe_fldK (K := K) rfl (pv 0) rfl) pe_str (nomark _))
      (pss_one (ps_ret (pe_lst (pa_cons (pe_fldK (K := K) rfl (pv 0) rfl) pa_nil))))
      pss_nil)
      (pss_one (ps_ret (pe_sortedSet (K := K) rfl rfl (pe_lc2 (own := [("part", 1), ("name", 2)]) (vs1 := [2]) (g := gName 1) (tt := tYes) (g1 := gName 2) (tt1 := tYes) rfl sc_Circle_eyes.nd (pi_list (pe_fldK (K := K) rfl (pv 0) rfl)) (blkOk_by (own := [("part", 1), ("name", 2)]) (N := n_Circle_eyes) (sc := defScope s_Circle_eyes) (by decide +kernel)) (by decide) (fun _ _ _ _ _ => (pg_name (i := 1) sc_Circle_eyes.nd rfl (.inl rfl))) (fun _ _ _ _ _ => pts_nil) (fun _ _ _ _ _ => (pi_listK (K := K) rfl (pmeth0 T.c_Circle G hr (pv 1)))) (fun _ _ _ _ _ => (pg_name (i := 2) sc_Circle_eyes.nd rfl (.inl rfl))) (fun _ _ _ _ _ => pts_nil) (fun _ _ _ _ _ => (pv 2))) (by rfl) T.n_sorted (by rfl) T.n_set)))), ?_⟩
      obtain ⟨p, dx, l, us, rfl, hp, hl, hcs⟩ := hc.at_
      refine ⟨_, rfl, p, AA.Circle, dx, _, _, rfl, hp, T.c_Circle, T.a_Circle_kind, fl_kind, rfl, _, rfl, ?_⟩
      cases c with
      | eye z =>
        refine iteT ?_
        refine ⟨_, rfl, p, AA.Circle, dx, _, _, rfl, hp, T.c_Circle, T.a_Circle_name, fl_name, by show 1 ≤ sizeLine; decide, fun b hb => ?_⟩
        exact q [z] b _ ⟨rfl, List.nodup_cons.mpr ⟨by simp, List.nodup_nil⟩, fun y => Iff.rfl⟩ hb (Ex.new hb) upd_same
      | node k ps =>
        have e2 : (decide ((V.str (Ci.node k ps).kind) = V.str (Str.ofString "eye"))) = false := decide_eq_false fun h => kindS_eye k (V.str.inj h)
        rw [e2]
        refine iteF ?_
        have hpf : ∀ c ∈ ps, c.fine := fun c hc => parts_fine hf (show c ∈ (Ci.node k ps).parts from hc)
        have hs60 : sizes ps ≤ 60 := hf.2
        have hcl : us.length = ps.length := hcs.length
        have hdn : 1 + depths ps < n + 1 := hd
        refine ⟨_, rfl, p, AA.Circle, dx, _, _, rfl, hp, T.c_Circle, T.a_Circle_parts, fl_parts, l, rfl, ⟨us, sq_of hl⟩, fun D hD => it_by (walk_list (xs := us)) (fun i H' => H D = none ∧ Ex H H' ∧ ∃ xs : List Str, H' D = some (.lst (xs.map V.str)) ∧ (∀ y, y ∈ xs ↔ y ∈ leavess (ps.take i)) ∧ xs.length ≤ sizes (ps.take i)) ⟨hD, Ex.new hD, [], upd_same, fun y => Iff.rfl, Nat.le_refl _⟩ (fun _ _ _ hp => sq_of (hp.2.1 _ _ hl)) (fun i v H3 H4 hi hp3 hy => ?_) (fun H' hp3 => ?_)⟩
        · obtain ⟨rfl, hv⟩ := hy
          obtain ⟨c, hg, hA⟩ := hcs.get hv
          obtain ⟨hD0, e3, xs, h3, hm, hx⟩ := hp3
          have hcm : c ∈ ps := List.mem_of_getElem? hg
          have hcd := depths_le hcm
          obtain ⟨p2, dx2, lp2, vs2, rfl, hp2, hlp2, hcs2⟩ := hA.at_
          have htk : ps.take (i + 1) = ps.take i ++ [c] := by
            rw [List.take_add_one, show ps[i]? = some c from hg]
            rfl
          have hsz : sizes (ps.take (i + 1)) = sizes (ps.take i) + c.size := by
            rw [htk, sizes_app]
            rfl
          refine ⟨rfl, _, rfl, p2, dx2, _, rfl, e3 _ _ hp2, fl_no (by decide +kernel) (by decide +kernel) (by decide +kernel) (by decide +kernel) (by decide +kernel) (by decide +kernel), .ref p2, c, rfl, hA.mono e3, by omega, hpf c hcm, fun ys l2 H5 hys hl2 e5 h5 => ?_⟩
          have hyl := hys.len
          have hne : D ≠ l2 := ne_of_none h3 hl2
          refine ⟨l2, rfl, ⟨_, sq_of h5⟩, it_by (walk_list (xs := ys.map V.str)) (fun j H' => Ex H H' ∧ H' l2 = some (.lst (ys.map V.str)) ∧ H' D = some (.lst ((xs ++ ys.take j).map V.str))) ⟨e3.trans e5, h5, ?_⟩ (fun _ _ _ hq => sq_of hq.2.1) (fun j u H6 H7 hj hq hy6 => ?_) (fun H' hq => ?_)⟩
          · rw [List.take_zero, List.append_nil]
            exact e5 _ _ h3
          · obtain ⟨rfl, hu⟩ := hy6
            obtain ⟨e6, h6, h7⟩ := hq
            rw [List.getElem?_map] at hu
            obtain ⟨y, hyj, rfl⟩ := Option.map_eq_some_iff.mp hu
            refine ⟨rfl, _, rfl, _, h7, ?_, e6.mut hD0, (upd_ne hne.symm).trans h6, ?_⟩
            · rw [List.length_map, List.length_append, List.length_take]
              refine sz_lt ?_
              have h8 : sizes (ps.take i) + c.size ≤ 60 := by
                have h9 : sizes ps = sizes (ps.take (i + 1)) + sizes (ps.drop (i + 1)) := by
                  rw [← sizes_app, List.take_append_drop]
                omega
              omega
            · rw [upd_same, List.take_add_one, hyj, ← List.append_assoc, List.map_append (l₁ := xs ++ ys.take j)]
              rfl
          · obtain ⟨e6, h6, h7⟩ := hq
            rw [List.take_of_length_le (by rw [List.length_map]; exact Nat.le_refl _)] at h7
            refine ⟨hD0, e6, xs ++ ys, h7, fun y => ?_, ?_⟩
            · rw [List.mem_append, htk, leavess_app, List.mem_append, hm y, hys.2.2 y]
              show _ ↔ _ ∨ y ∈ c.leaves ++ []
              rw [List.append_nil]
            · rw [List.length_append, hsz]
              omega
        · obtain ⟨hD0, e3, xs, h3, hm, hx⟩ := hp3
          rw [List.take_of_length_le (by rw [hcl]; exact Nat.le_refl _)] at hm hx
          refine ⟨D, xs, rfl, sq_of h3, by omega, fun ys p3 so nd me np => ?_⟩
          exact q ys p3 _ ⟨so, nd, fun y => (me y).trans (hm y)⟩ (fresh_back e3 np) (e3.trans (Ex.new np)) upd_same
end
end Eyes

set_option Elab.async false
set_option linter.all false
set_option maxRecDepth 100000
set_option maxHeartbeats 4000000
namespace Eyes
open PySem PySem.Spec PyProof.Rows L2 Evl TL
def Plain (x : V) : Prop := x = .non ∨ (∃ b, x = .bl b) ∨ (∃ i, x = .int i) ∨ ∃ z, x = .str z
inductive Sm (C : Addr) (H : Hp) : Nat → V → V → Prop
  | sc {n : Nat} {x : V} : Plain x → Sm C H (n + 1) x x
  | ci {n : Nat} {x y : V} {c d : Ci} : CiAt C H x c → CiAt C H y d → c.str = d.str → Sm C H (n + 1) x y
  | lst {n : Nat} {a b : Addr} {xs ys : List V} : H a = some (.lst xs) → H b = some (.lst ys) → xs.length = ys.length → xs.length ≤ 90000 → (∀ (i : Nat) (u v : V), xs[i]? = some u → ys[i]? = some v → Sm C H n u v) → Sm C H (n + 1) (.ref a) (.ref b)
  | tup {n : Nat} {a b : Addr} {xs ys : List V} : H a = some (.tup xs) → H b = some (.tup ys) → xs.length = ys.length → xs.length ≤ 90000 → (∀ (i : Nat) (u v : V), xs[i]? = some u → ys[i]? = some v → Sm C H n u v) → Sm C H (n + 1) (.ref a) (.ref b)
theorem Sm.mono {C : Addr} {H H' : Hp} (e : Ex H H') {n : Nat} {x y : V} (h : Sm C H n x y) : Sm C H' n x y := by
  induction h with
  | sc h => exact .sc h
  | ci h1 h2 h3 => exact .ci (h1.mono e) (h2.mono e) h3
  | lst h1 h2 h3 h4 _ ih => exact .lst (e _ _ h1) (e _ _ h2) h3 h4 ih
  | tup h1 h2 h3 h4 _ ih => exact .tup (e _ _ h1) (e _ _ h2) h3 h4 ih
theorem Rep.sm {C : Addr} {H : Hp} : ∀ (n : Nat) {x y : V} {d : PyData}, Rep H x d → Rep H y d → d.depth < n → wid d ≤ 90000 → Sm C H n x y
  | 0, _, _, _, _, _, h, _ => absurd h (Nat.not_lt_zero _)
  | n + 1, x, y, d, hx, hy, hd, hw => by
    cases hx with
    | non => cases hy; exact .sc (.inl rfl)
    | bl b => cases hy; exact .sc (.inr (.inl ⟨_, rfl⟩))
    | int i => cases hy; exact .sc (.inr (.inr (.inl ⟨_, rfl⟩)))
    | str z => cases hy; exact .sc (.inr (.inr (.inr ⟨_, rfl⟩)))
    | lst h r =>
      cases hy with
      | lst h' r' =>
        simp only [PyData.depth] at hd
        simp only [wid] at hw
        have l1 := r.length
        refine .lst h h' (l1.trans r'.length.symm) (by omega) fun i u v e1 e2 => ?_
        obtain ⟨d1, hd1, r1⟩ := r.get e1
        obtain ⟨d2, hd2, r2⟩ := r'.get e2
        rw [hd1] at hd2
        cases hd2
        have := depth_get hd1
        have := wid_get hd1
        exact Rep.sm n r1 r2 (by omega) (by omega)
    | tup h r =>
      cases hy with
      | tup h' r' =>
        simp only [PyData.depth] at hd
        simp only [wid] at hw
        have l1 := r.length
        refine .tup h h' (l1.trans r'.length.symm) (by omega) fun i u v e1 e2 => ?_
        obtain ⟨d1, hd1, r1⟩ := r.get e1
        obtain ⟨d2, hd2, r2⟩ := r'.get e2
        rw [hd1] at hd2
        cases hd2
        have := depth_get hd1
        have := wid_get hd1
        exact Rep.sm n r1 r2 (by omega) (by omega)
structure Hd (K : PySem.W.Frag) (C : Addr) (H : Hp) (n : Nat) (x y : V) (t : Value) (kl kt kb ki ks sq : Bool) : Prop where
  tx : TyX K H x t
  ty : TyX K H y t
  l : PySem.W.kitOne K t (.type "list") = some kl
  tp : PySem.W.kitOne K t (.type "tuple") = some kt
  b : PySem.W.kitOne K t (.type "bool") = some kb
  i : PySem.W.kitOne K t (.type "int") = some ki
  s : PySem.W.kitOne K t (.type "str") = some ks
  q : PySem.W.kitAny K t [.type "list", .type "tuple"] = some sq
  yes : sq = true → ∃ (p1 p2 : Addr) (xs ys : List V), x = .ref p1 ∧ y = .ref p2 ∧ xs.length = ys.length ∧ xs.length ≤ 90000 ∧ (∀ (i : Nat) (u v : V), xs[i]? = some u → ys[i]? = some v → Sm C H n u v) ∧ ((H p1 = some (.lst xs) ∧ H p2 = some (.lst ys)) ∨ (H p1 = some (.tup xs) ∧ H p2 = some (.tup ys)))
  no : sq = false → PySem.W.kitOne K t (.type "dict") = some false ∧ ((x = y ∧ scal x y = true) ∨ ∃ c d, CiAt C H x c ∧ CiAt C H y d ∧ c.str = d.str)
theorem Sm.hd {K : PySem.W.Frag} {C : Addr} {H : Hp} {n : Nat} {x y : V} (cc : Cls K C) (cy : ClsY K C) (h : Sm C H (n + 1) x y) : ∃ t kl kt kb ki ks sq, Hd K C H n x y t kl kt kb ki ks sq := by
  have dat : ∀ (d : PyData), Rep H x d → Rep H y d → (seqD d = true → ∃ (p1 p2 : Addr) (xs ys : List V), x = .ref p1 ∧ y = .ref p2 ∧ xs.length = ys.length ∧ xs.length ≤ 90000 ∧ (∀ (i : Nat) (u v : V), xs[i]? = some u → ys[i]? = some v → Sm C H n u v) ∧ ((H p1 = some (.lst xs) ∧ H p2 = some (.lst ys)) ∨ (H p1 = some (.tup xs) ∧ H p2 = some (.tup ys)))) → (seqD d = false → PySem.W.kitOne K (.type (tyD d)) (.type "dict") = some false ∧ x = y ∧ scal x y = true) → ∃ t kl kt kb ki ks sq, Hd K C H n x y t kl kt kb ki ks sq := fun d hx hy g1 g2 => by
    obtain ⟨kl, hkl⟩ := kit_list K d
    obtain ⟨kt, hkt⟩ := kit_tuple K d
    obtain ⟨kb, hkb⟩ := kit_bool K d
    obtain ⟨ki, hki⟩ := kit_int K d
    obtain ⟨ks, hks⟩ := kit_str K d
    exact ⟨_, kl, kt, kb, ki, ks, seqD d, hx.ty, hy.ty, hkl, hkt, hkb, hki, hks, kit_seq K d, g1, fun z => ⟨(g2 z).1, .inl (g2 z).2⟩⟩
  cases h with
  | sc h =>
    rcases h with rfl | ⟨b, rfl⟩ | ⟨i, rfl⟩ | ⟨z, rfl⟩
    · exact dat .none .non .non (fun z => nomatch z) fun _ => ⟨kit_ty (a := "NoneType") (by decide +kernel), rfl, rfl⟩
    · exact dat (.bool b) (.bl b) (.bl b) (fun z => nomatch z) fun _ => ⟨kit_ty (a := "bool") (by decide +kernel), rfl, rfl⟩
    · exact dat (.int i) (.int i) (.int i) (fun z => nomatch z) fun _ => ⟨kit_ty (a := "int") (by decide +kernel), rfl, rfl⟩
    · exact dat (.str z) (.str z) (.str z) (fun z => nomatch z) fun _ => ⟨kit_ty (a := "str") (by decide +kernel), rfl, rfl⟩
  | ci h1 h2 h3 =>
    obtain ⟨p, dx, l, vs, rfl, hp, _, _⟩ := h1.at_
    obtain ⟨p2, dx2, l2, vs2, rfl, hp2, _, _⟩ := h2.at_
    refine ⟨_, false, false, false, false, false, false, .base (.ins hp cc cy.ty1 cy.ty2 cy.ty3 cy.ty4), .base (.ins hp2 cc cy.ty1 cy.ty2 cy.ty3 cy.ty4), cy.k_list, cy.k_tuple, cy.k_bool, cy.k_int, cy.k_str, ?_, fun z => (nomatch z), fun _ => ⟨cy.k_dict, .inr ⟨_, _, h1, h2, h3⟩⟩⟩
    exact kitAny_cons (b := false) cy.k_list (fun _ => kitAny_cons (b := false) cy.k_tuple (fun _ => kitAny_nil) (fun z => nomatch z)) (fun z => nomatch z)
  | @lst _ a b xs ys h1 h2 h3 h4 h5 =>
    obtain ⟨kl, hkl⟩ := kit_list K (.list [])
    obtain ⟨kt, hkt⟩ := kit_tuple K (.list [])
    obtain ⟨kb, hkb⟩ := kit_bool K (.list [])
    obtain ⟨ki, hki⟩ := kit_int K (.list [])
    obtain ⟨ks, hks⟩ := kit_str K (.list [])
    exact ⟨_, kl, kt, kb, ki, ks, true, .base (.lst h1), .base (.lst h2), hkl, hkt, hkb, hki, hks, kit_seq K (.list []), fun _ => ⟨a, b, xs, ys, rfl, rfl, h3, h4, h5, .inl ⟨h1, h2⟩⟩, fun z => (nomatch z)⟩
  | @tup _ a b xs ys h1 h2 h3 h4 h5 =>
    obtain ⟨kl, hkl⟩ := kit_list K (.tuple [])
    obtain ⟨kt, hkt⟩ := kit_tuple K (.tuple [])
    obtain ⟨kb, hkb⟩ := kit_bool K (.tuple [])
    obtain ⟨ki, hki⟩ := kit_int K (.tuple [])
    obtain ⟨ks, hks⟩ := kit_str K (.tuple [])
    exact ⟨_, kl, kt, kb, ki, ks, true, .base (.tup h1), .base (.tup h2), hkl, hkt, hkb, hki, hks, kit_seq K (.tuple []), fun _ => ⟨a, b, xs, ys, rfl, rfl, h3, h4, h5, .inr ⟨h1, h2⟩⟩, fun z => (nomatch z)⟩
theorem Sm.non {C : Addr} {H : Hp} {n : Nat} {x y : V} (h : Sm C H n x y) : (x = .non ∧ y = .non) ∨ (decide (x = V.non) = false ∧ decide (y = V.non) = false) := by
  cases h with
  | sc h =>
    rcases h with rfl | ⟨b, rfl⟩ | ⟨i, rfl⟩ | ⟨z, rfl⟩
    · exact .inl ⟨rfl, rfl⟩
    · exact .inr ⟨rfl, rfl⟩
    · exact .inr ⟨rfl, rfl⟩
    · exact .inr ⟨decide_eq_false nofun, decide_eq_false nofun⟩
  | ci h1 h2 h3 =>
    obtain ⟨p, dx, l, vs, rfl, hp, _, _⟩ := h1.at_
    obtain ⟨p2, dx2, l2, vs2, rfl, hp2, _, _⟩ := h2.at_
    exact .inr ⟨rfl, rfl⟩
  | lst => exact .inr ⟨rfl, rfl⟩
  | tup => exact .inr ⟨rfl, rfl⟩
def spSm (C : Addr) (n : Nat) : Sp := fun vs H Q _ => ∃ (x y : V), vs = [x, y] ∧ Sm C H n x y ∧ ∀ H', Ex H H' → Q (.bl true) H'
section
variable {P : Program} {w : World} {K : PySem.W.Frag} {mg : Str → Option Value} {base : Heap} {AA : Adr}
theorem ok_law_sm (T : Txt K mg AA) : ∀ n : Nat, Pr P w K mg base "_law_same" s_law_same p_law_same (n + 1) (spSm AA.Circle n)
  | 0 => by
    obtain ⟨f, fd, F, hb, hm⟩ := T.f_law_same
    exact ⟨f, fd, hm, F, hb, fun vs H Q E h => by
      obtain ⟨x, y, rfl, h, _⟩ := h
      rfl, fun A outer s H args us vs Q E _ _ _ _ h => by
      obtain ⟨x, y, _, h, _⟩ := h
      cases h⟩
  | n + 1 => by
    have G := ok_law_sm T n
    refine pr_mk T.f_law_same sc_law_same (fun vs H Q E h => ?_) (fun f cdv A outer s H vs Q E hr h => ?_)
    · obtain ⟨x, y, rfl, _⟩ := h
      rfl
    · obtain ⟨x, y, rfl, hs, q⟩ := h
      refine ⟨_, (pss_cons (ps_if (PW.pt (pw_or (pt_cmpR op_isN (pv 1) pe_non (nomark _)) (pw_or1 (pt_cmpR op_isN (pv 0) pe_non (nomark _)))))
      (pss_one (ps_ret (pe_and (pe_cmpR op_isN (pv 1) pe_non (nomark _)) (pe_one (pe_cmpR op_isN (pv 0) pe_non (nomark _))))))
      pss_nil)
      (pss_cons (ps_if (pt_val (pe_callB call_isiT (by rfl) T.n_isinstance PyProof.Rows.boot_isinstance (pa_cons (pv 1) (pa_cons (pe_tup (pa_cons (pe_bltn (v := .ty "list") (by rfl) T.n_list (by decide +kernel) rfl) (pa_cons (pe_bltn (v := .ty "tuple") (by rfl) T.n_tuple (by decide +kernel) rfl) pa_nil))) pa_nil))))
      (pss_cons (ps_if (PW.pt (pw_or (pt_cmpR op_ne (pe_callB (call_isiK (K := K) rfl) (by rfl) T.n_isinstance PyProof.Rows.boot_isinstance (pa_cons (pv 0) (pa_cons (pe_bltn (v := .ty "list") (by rfl) T.n_list (by decide +kernel) rfl) pa_nil))) (pe_callB (call_isiK (K := K) rfl) (by rfl) T.n_isinstance PyProof.Rows.boot_isinstance (pa_cons (pv 1) (pa_cons (pe_bltn (v := .ty "list") (by rfl) T.n_list (by decide +kernel) rfl) pa_nil))) (nomark _)) (pw_or1 (pt_cmpR op_ne (pe_callB (call_isiK (K := K) rfl) (by rfl) T.n_isinstance PyProof.Rows.boot_isinstance (pa_cons (pv 0) (pa_cons (pe_bltn (v := .ty "tuple") (by rfl) T.n_tuple (by decide +kernel) rfl) pa_nil))) (pe_callB (call_isiK (K := K) rfl) (by rfl) T.n_isinstance PyProof.Rows.boot_isinstance (pa_cons (pv 1) (pa_cons (pe_bltn (v := .ty "tuple") (by rfl) T.n_tuple (by decide +kernel) rfl) pa_nil))) (nomark _)))))
      (pss_one (ps_ret pe_bl))
      pss_nil)
      (pss_one (ps_ret (pe_and (pe_cmpR op_eq (pe_callB call_len (by rfl) T.n_len PySem.boot_len (pa_cons (pv 0) pa_nil)) (pe_callB call_len (by rfl) T.n_len PySem.boot_len (pa_cons (pv 1) pa_nil)) (nomark _)) (pe_one (pe_callB (cr_all rfl) (by rfl) T.n_all PyProof.Rows.boot_all (pa_cons (pe_lc (own := [("_law_x", 3), ("_law_y", 4)]) (g := gTup K 2 (gCons (gName 3) (gCons (gName 4) gNil))) (tt := tYes) rfl sc_law_same.nd (RZ.pi_zipA (by rfl) T.n_zip (pa_cons (pv 0) (pa_cons (pv 1) pa_nil))) (blkOk_by (own := [("_law_x", 3), ("_law_y", 4)]) (N := n_law_same) (sc := defScope s_law_same) (by decide +kernel)) (fun _ _ _ _ _ => (pg_tup (by rfl) (pgs_cons (pg_name (i := 3) sc_law_same.nd rfl (.inl rfl)) (pgs_cons (pg_name (i := 4) sc_law_same.nd rfl (.inl rfl)) pgs_nil)))) (fun _ _ _ _ _ => pts_nil) (fun _ _ _ _ _ => (pcall G hr (pa_cons (pv 3) (pa_cons (pv 4) pa_nil))))) pa_nil)))))))
      pss_nil)
      (pss_cons (ps_if (pt_val (pe_callB (call_isiK (K := K) rfl) (by rfl) T.n_isinstance PyProof.Rows.boot_isinstance (pa_cons (pv 1) (pa_cons (pe_bltn (v := .ty "dict") (by rfl) T.n_dict (by decide +kernel) rfl) pa_nil))))
      pss_never
      pss_nil)
      (pss_cons (ps_if (PW.pt (pw_or (pt_cmpR op_ne (pe_callB (call_isiK (K := K) rfl) (by rfl) T.n_isinstance PyProof.Rows.boot_isinstance (pa_cons (pv 1) (pa_cons (pe_bltn (v := .ty "bool") (by rfl) T.n_bool (by decide +kernel) rfl) pa_nil))) (pe_callB (call_isiK (K := K) rfl) (by rfl) T.n_isinstance PyProof.Rows.boot_isinstance (pa_cons (pv 0) (pa_cons (pe_bltn (v := .ty "bool") (by rfl) T.n_bool (by decide +kernel) rfl) pa_nil))) (nomark _)) (pw_or1 (pt_cmpR op_ne (pe_callB (call_isiK (K := K) rfl) (by rfl) T.n_isinstance PyProof.Rows.boot_isinstance (pa_cons (pv 1) (pa_cons (pe_bltn (v := .ty "int") (by rfl) T.n_int (by decide +kernel) rfl) pa_nil))) (pe_callB (call_isiK (K := K) rfl) (by rfl) T.n_isinstance PyProof.Rows.boot_isinstance (pa_cons (pv 0) (pa_cons (pe_bltn (v := .ty "int") (by rfl) T.n_int (by decide +kernel) rfl) pa_nil))) (nomark _)))))
      (pss_one (ps_ret pe_bl))
      pss_nil)
      (pss_one (ps_ret (pe_and (pe_cmpR op_eq (pe_callB (call_isiK (K := K) rfl) (by rfl) T.n_isinstance PyProof.Rows.boot_isinstance (pa_cons (pv 1) (pa_cons (pe_bltn (v := .ty "str") (by rfl) T.n_str (by decide +kernel) rfl) pa_nil))) (pe_callB (call_isiK (K := K) rfl) (by rfl) T.n_isinstance PyProof.Rows.boot_isinstance (pa_cons (pv 0) (pa_cons (pe_bltn (v := .ty "str") (by rfl) T.n_str (by decide +kernel) rfl) pa_nil))) (nomark _)) (pe_one (pe_cmpR (opR_or op_eq (op_eqOwn (ok_Circle___eq T) hr)) (pv 0) (pv 1) (by rfl)))))))))), ?_⟩
      -- if due is None or found is None
      refine ⟨_, rfl, rfl, _, rfl, ?_⟩
      rcases hs.non with ⟨rfl, rfl⟩ | ⟨hxn, hyn⟩
      · refine iteT ?_
        refine iteT ?_
        refine ⟨_, rfl, rfl, _, rfl, iteT ?_⟩
        refine ⟨_, rfl, rfl, ?_⟩
        exact q _ (Ex.refl _)
      · rw [hyn]
        refine iteF ?_
        refine ⟨_, rfl, rfl, _, rfl, ?_⟩
        rw [hxn]
        refine iteF ?_
        -- if isinstance(due, (list, tuple))
        refine ⟨_, rfl, by show 2 ≤ sizeLine; decide, fun t1 ht1 => ?_⟩
        have e1 : Ex H (upd H t1 (.tup [.ty "list", .ty "tuple"])) := Ex.new ht1
        obtain ⟨t, kl, kt, kb, ki, ks, sq, g⟩ := (hs.mono e1).hd T.c_Circle T.y_Circle
        refine ⟨y, t1, [.ty "list", .ty "tuple"], _, [.type "list", .type "tuple"], _, rfl, upd_same, .cons (.ty _) (.cons (.ty _) .nil), g.ty, g.q, _, rfl, ?_⟩
        generalize upd H t1 (.tup [.ty "list", .ty "tuple"]) = H1 at e1 g
        cases sq with
        | false =>
          refine iteF ?_
          obtain ⟨hkd, ho⟩ := g.no rfl
          refine ⟨_, rfl, y, .ty "dict", _, _, _, rfl, .ty _, g.ty, hkd, _, rfl, iteF ?_⟩
          refine ⟨_, rfl, y, .ty "bool", _, _, _, rfl, .ty _, g.ty, g.b, _, rfl, x, .ty "bool", _, _, _, rfl, .ty _, g.tx, g.b, rfl, _, rfl, ?_⟩
          refine iteNS rfl ?_
          refine ⟨_, rfl, y, .ty "int", _, _, _, rfl, .ty _, g.ty, g.i, _, rfl, x, .ty "int", _, _, _, rfl, .ty _, g.tx, g.i, rfl, _, rfl, ?_⟩
          refine iteNS rfl ?_
          refine ⟨_, rfl, y, .ty "str", _, _, _, rfl, .ty _, g.ty, g.s, _, rfl, x, .ty "str", _, _, _, rfl, .ty _, g.tx, g.s, rfl, _, rfl, iteDT rfl ?_⟩
          rcases ho with ⟨rfl, hsc⟩ | ⟨c, d, h1, h2, h3⟩
          · refine ⟨_, rfl, _, rfl, .inl ⟨hsc, ?_⟩⟩
            rw [decide_eq_true rfl]
            exact q _ e1
          · obtain ⟨p, dx, l, vs, rfl, hp, _, _⟩ := h1.at_
            obtain ⟨p2, dx2, l2, vs2, rfl, hp2, _, _⟩ := h2.at_
            refine ⟨_, rfl, _, rfl, .inr ⟨p, dx, _, rfl, hp, .inr (.inr ⟨p2, dx2, _, rfl, hp2⟩), _, _, c, true, rfl, h1, .inl ⟨d, h2, by rw [decide_eq_true h3]⟩, fun H' e => q _ (e1.trans e)⟩⟩
        | true =>
          refine iteT ?_
          -- kinds
          refine ⟨_, rfl, x, .ty "list", _, _, _, rfl, .ty _, g.tx, g.l, _, rfl, y, .ty "list", _, _, _, rfl, .ty _, g.ty, g.l, rfl, _, rfl, ?_⟩
          refine iteNS rfl ?_
          refine ⟨_, rfl, x, .ty "tuple", _, _, _, rfl, .ty _, g.tx, g.tp, _, rfl, y, .ty "tuple", _, _, _, rfl, .ty _, g.ty, g.tp, rfl, _, rfl, ?_⟩
          refine iteNS rfl ?_
          -- len(found) == len(due) and all([..])
          obtain ⟨p1, p2, xs, ys, rfl, rfl, ll, hl1, hh, ho⟩ := g.yes rfl
          have LX : LenV K (.ref p1) H1 xs.length := by
            rcases ho with ⟨h, _⟩ | ⟨h, _⟩
            · exact .inl ⟨_, sq_of h, rfl⟩
            · exact .inr ⟨_, st_of h, rfl⟩
          have LY : LenV K (.ref p2) H1 ys.length := by
            rcases ho with ⟨_, h⟩ | ⟨_, h⟩
            · exact .inl ⟨_, sq_of h, rfl⟩
            · exact .inr ⟨_, st_of h, rfl⟩
          refine ⟨_, rfl, .ref p1, _, rfl, LX, _, rfl, .ref p2, _, rfl, LY, rfl, _, rfl, iteDT (by rw [ll]) ?_⟩
          -- all([same(x, y) for x, y in zip(found, due)])
          have turn : ∀ (D : Addr) (i : Nat) (v : V) (H3 H4 : Hp), i < xs.length → (H1 D = none ∧ Ex H1 H3 ∧ H3 D = some (.lst (List.replicate i (V.bl true)))) → YPair (fun i => xs[i]?) (fun i => ys[i]?) i H3 v H4 →
              gTup K 2 (gCons (gName 3) (gCons (gName 4) gNil)) v [some (V.ref p1), some (V.ref p2), none, none, none] H4 fun σ2 H5 => wipe σ2 [3, 4] = [some (V.ref p1), some (V.ref p2), none, none, none] ∧ tYes σ2 H5 fun b H6 =>
                if b = true then tCall (spSm AA.Circle n) [] (fun _ _ _ => False) (tCons (tVar 3) (tCons (tVar 4) tNil)) σ2 H6 fun y H7 => ∃ acc, H7 D = some (.lst acc) ∧ acc.length < sizeLine ∧
                  (fun i H' => H1 D = none ∧ Ex H1 H' ∧ H' D = some (.lst (List.replicate i (V.bl true)))) (i + 1) (upd H7 D (.lst (acc ++ [y]))) else (fun i H' => H1 D = none ∧ Ex H1 H' ∧ H' D = some (.lst (List.replicate i (V.bl true)))) (i + 1) H6 := by
            intro D i v H3 H4 hi hp hy4
            obtain ⟨T1, u1, u2, rfl, hT, rfl, g1, g2⟩ := hy4
            obtain ⟨hD, ex3, hD3⟩ := hp
            have ex4 : Ex H3 (upd H3 T1 (.tup [u1, u2])) := Ex.new hT
            refine ⟨T1, [u1, u2], rfl, st_of upd_same, rfl, u1, [u2], rfl, u2, [], rfl, rfl, rfl, ?_⟩
            refine ⟨u1, rfl, u2, rfl, u1, u2, rfl, (hh i u1 u2 g1 g2).mono (ex3.trans ex4), fun H7 e7 => ?_⟩
            refine ⟨_, e7 _ _ (ex4 _ _ hD3), ?_, hD, ((ex3.trans ex4).trans e7).mut hD, ?_⟩
            · rw [List.length_replicate]
              exact sz_lt (by omega)
            · rw [upd_same, List.replicate_succ']
          have fin : ∀ (D : Addr) (H' : Hp), (H1 D = none ∧ Ex H1 H' ∧ H' D = some (.lst (List.replicate xs.length (V.bl true)))) → tNil [some (V.ref p1), some (V.ref p2), none, none, none] H' fun xs H2 => rAll K (V.ref D :: xs) H2 Q := by
            intro D H' hp
            refine ⟨D, List.replicate xs.length true, rfl, sq_of (hp.2.2.trans (by rw [List.map_replicate])), ?_⟩
            rw [show (List.replicate xs.length true).all id = true by simp]
            exact q _ (e1.trans hp.2.1)
          rcases ho with ⟨h1, h2⟩ | ⟨h1, h2⟩
          · refine ⟨_, rfl, _, rfl, p1, p2, xs, ys, rfl, .inl ⟨sq_of h1, sq_of h2, fun D hD => lc_it (walk_zip (n := xs.length) (by omega)) (fun i H' => H1 D = none ∧ Ex H1 H' ∧ H' D = some (.lst (List.replicate i (V.bl true)))) ⟨hD, Ex.new hD, upd_same⟩ (fun i H' _ hp => ⟨sq_of (hp.2.1 _ _ h1), sq_of (hp.2.1 _ _ h2)⟩) (fun i v H3 H4 hi hp hy4 => turn D i v H3 H4 hi hp hy4) (fun H' hp => fin D H' hp)⟩⟩
          · refine ⟨_, rfl, _, rfl, p1, p2, xs, ys, rfl, .inr ⟨st_of h1, st_of h2, fun D hD => lc_it (walk_zipT (n := xs.length) (by omega)) (fun i H' => H1 D = none ∧ Ex H1 H' ∧ H' D = some (.lst (List.replicate i (V.bl true)))) ⟨hD, Ex.new hD, upd_same⟩ (fun i H' _ hp => ⟨st_of (hp.2.1 _ _ h1), st_of (hp.2.1 _ _ h2)⟩) (fun i v H3 H4 hi hp hy4 => turn D i v H3 H4 hi hp hy4) (fun H' hp => fin D H' hp)⟩⟩
end
end Eyes

set_option Elab.async false
set_option linter.all false
set_option maxRecDepth 100000
set_option maxHeartbeats 4000000
namespace Eyes
open PySem PySem.Spec PyProof.Rows L2 Evl TL
theorem name_nm {n : Str} (h : nameS n = true) : nm n := by
  unfold nameS at h
  obtain ⟨h1, h3⟩ := Bool.and_eq_true_iff.mp h
  obtain ⟨h1, h2⟩ := Bool.and_eq_true_iff.mp h1
  refine ⟨of_decide_eq_true h1, of_decide_eq_true h2, fun c hc => ?_⟩
  have h4 := of_decide_eq_true (List.all_eq_true.mp h3 c hc)
  have h5 : letters.cps.toList = (List.range 26).map (· + 97) := by decide +kernel
  rw [h5, List.mem_map] at h4
  obtain ⟨k, hk, e⟩ := h4
  rw [List.mem_range] at hk
  omega
def NoCi (K : PySem.W.Frag) (C : Addr) (H : Hp) (v : V) : Prop := ∃ t, TyX K H v t ∧ PySem.W.kitOne K t (.ref C) = some false
theorem NoCi.mono {K : PySem.W.Frag} {C : Addr} {H H' : Hp} {v : V} (h : NoCi K C H v) (e : Ex H H') : NoCi K C H' v := by
  obtain ⟨t, h1, h2⟩ := h
  exact ⟨t, TyX.mono e h1, h2⟩
def BadAt (K : PySem.W.Frag) (C : Addr) (H : Hp) (us : List V) (k : Nat) : Prop :=
  (us = [] ∧ k = 0) ∨ ∃ u, us[k]? = some u ∧ NoCi K C H u ∧ ∀ (j : Nat) (y : V), j < k → us[j]? = some y → ∃ c, CiAt C H y c
def spCheck (K : PySem.W.Frag) (C CE : Addr) : Sp := fun vs H Q E => ∃ (a : Addr) (us : List V), vs = [.ref a] ∧ SqT K H a us ∧ us.length ≤ 90000 ∧
  (((∃ cs, CisAt C H us cs) ∧ us ≠ [] ∧ ∀ H', Ex H H' → Q .non H') ∨ ∃ k : Nat, BadAt K C H us k ∧ ∀ d H', H d = none → Ex H H' → H' d = some (.xd [("at", .int k)]) → E (.ref CE) (some d) H')
section
variable {P : Program} {w : World} {K : PySem.W.Frag} {mg : Str → Option Value} {base : Heap} {AA : Adr}
theorem ok_InvalidName___init (T : Txt K mg AA) {f : Addr} {fd : FuncData} (F : Fun K "__init__" "InvalidName.__init__" s_InvalidName___init f fd) (hb : Binds K fd p_InvalidName___init []) : FnOk P w K mg base CX0 1 f fd p_InvalidName___init (spErr1 AA.InvalidName "value") :=
  F.ok sc_InvalidName___init (fun vs H Q E h => by
    obtain ⟨a, v, rfl, _⟩ := h
    rfl) fun cdv A outer s H vs Q E hr h => by
    obtain ⟨a, v, rfl, ha, q⟩ := h
    refine ⟨_, (pss_one (ps_ost (pv 0) (pv 1))), ?_⟩
    exact ⟨v, rfl, .ref a, rfl, a, AA.InvalidName, rfl, T.e_InvalidName.oex, T.a_InvalidName_value, .inl ⟨ha, fun dx hd hne => q dx hd hne⟩⟩
theorem ok_InvalidCircle___init (T : Txt K mg AA) {f : Addr} {fd : FuncData} (F : Fun K "__init__" "InvalidCircle.__init__" s_InvalidCircle___init f fd) (hb : Binds K fd p_InvalidCircle___init []) : FnOk P w K mg base CX0 1 f fd p_InvalidCircle___init (spErr1 AA.InvalidCircle "at") :=
  F.ok sc_InvalidCircle___init (fun vs H Q E h => by
    obtain ⟨a, v, rfl, _⟩ := h
    rfl) fun cdv A outer s H vs Q E hr h => by
    obtain ⟨a, v, rfl, ha, q⟩ := h
    refine ⟨_, (pss_one (ps_ost (pv 0) (pv 1))), ?_⟩
    exact ⟨v, rfl, .ref a, rfl, a, AA.InvalidCircle, rfl, T.e_InvalidCircle.oex, T.a_InvalidCircle_at, .inl ⟨ha, fun dx hd hne => q dx hd hne⟩⟩
def spEyeX (K : PySem.W.Frag) (C CE : Addr) : Sp := fun vs H Q E => ∃ (v : V) (k : Tk), vs = [v] ∧ Knd K H v k ∧
  (nameK k = true → ∀ z, v = .str z → nm z → ∀ v2 H', Ex H H' → CiAt C H' v2 (.eye z) → Q v2 H') ∧
  (nameK k = false → ∀ d H', H d = none → Ex H H' → H' d = some (.xd [("value", v)]) → E (.ref CE) (some d) H')
theorem ok_eyeX (T : Txt K mg AA) : PrX P w K mg base "eye" s_eye p_eye 6 (spEyeX K AA.Circle AA.InvalidName) := by
  refine prx_mk T.f_eye sc_eye (fun vs H Q E h => ?_) (fun f cdv A outer s H vs Q E hr h tk => ?_)
  · obtain ⟨v, k, rfl, _⟩ := h
    rfl
  · obtain ⟨v, k, rfl, hk, q1, q2⟩ := h
    refine ⟨_, (pss_cons (ps_if (pt_not (pt_val (pcall (ok_is_name T) hr (pa_cons (pv 0) pa_nil))))
      (pss_one (ps_raise1 T.e_InvalidName (fun _ _ F b => ok_InvalidName___init T F b) rfl tk hr (pa_cons (pv 0) pa_nil)))
      pss_nil)
      (pss_one (ps_ret (pmake T.m_Circle (ok_Circle___init T) hr (pa_cons pe_str (pa_cons (pv 0) (pa_cons (pe_lst pa_nil) pa_nil))))))), ?_⟩
    refine ⟨_, rfl, v, k, rfl, hk, fun H1 e1 => ⟨_, rfl, ?_⟩⟩
    show if (!nameK k) = true then _ else _
    cases hb : nameK k with
    | false =>
      refine iteT ?_
      exact ⟨v, rfl, raise1_by fun d hd => q2 hb d _ (fresh_back e1 hd) (e1.trans (Ex.new hd)) upd_same⟩
    | true =>
      refine iteF ?_
      obtain ⟨z, rfl, hn⟩ : ∃ z, v = .str z ∧ nm z := by
        cases k with
        | s z => exact ⟨z, hk.1, name_nm hb⟩
        | i n => cases hb
        | b c => cases hb
        | o => cases hb
      refine ⟨_, rfl, by show 0 ≤ sizeLine; decide, fun l hl x dx hx hdx hne => ?_⟩
      have eX : Ex (upd H1 l (.lst [])) (upd (upd (upd H1 l (.lst [])) dx (.own x)) x (.ins AA.Circle dx [])) := (Ex.new hdx).trans (Ex.new ((upd_ne (Ne.symm hne)).trans hx))
      refine ⟨x, dx, l, [], .eye z, upd H1 l (.lst []), rfl, hx, eX, upd_same, sq_of upd_same, .nil, by decide, (fun d hd => by cases hd), (fun j hj => by cases hj), fun H6 e6 hA => ⟨rfl, ?_⟩⟩
      exact q1 hb z rfl hn _ H6 ((e1.trans (Ex.new hl)).trans e6) hA
theorem PrR.imp {x : Str} {k : Nat} {sp sp2 : Sp} (G : PrR P w K mg base x k sp) (h : ∀ vs H Q E, sp2 vs H Q E → sp vs H Q E) : PrR P w K mg base x k sp2 := by
  obtain ⟨f, hm, hk, F⟩ := G
  exact ⟨f, hm, hk, F.imp h⟩
def spMany (K : PySem.W.Frag) (C CE : Addr) (k : Bool) : Sp := fun us H Q E => us.length ≤ 90000 ∧
  ((∃ cs, CisAt C H us cs ∧ Good k cs ∧ ∀ v H', Ex H H' → CiAt C H' v (mkC k cs) → Q v H') ∨ ∃ i : Nat, BadAt K C H us i ∧ ∀ d H', H d = none → Ex H H' → H' d = some (.xd [("at", .int i)]) → E (.ref CE) (some d) H')
def spTup (sp : Sp) : Sp := fun vs H Q E => ∃ (p : Addr) (us : List V) (G : Hp), vs = [.ref p] ∧ G p = none ∧ H = upd G p (.tup us) ∧ sp us G Q E
theorem star_many {C CE : Addr} {k : Bool} (us : List V) (H : Hp) (Q : VK) (E : XK) (h : spMany K C CE k us H Q E) : spStar (spTup (spMany K C CE k)) us H Q E :=
  ⟨sz_of (by have := h.1; omega), fun p hp => ⟨p, us, H, rfl, hp, rfl, h⟩⟩
theorem BadAt.mono {C : Addr} {H H' : Hp} {us : List V} {i : Nat} (h : BadAt K C H us i) (e : Ex H H') : BadAt K C H' us i := by
  rcases h with h | ⟨u, h1, h2, h3⟩
  · exact .inl h
  · refine .inr ⟨u, h1, h2.mono e, fun j y hj hy => ?_⟩
    obtain ⟨c, hc⟩ := h3 j y hj hy
    exact ⟨c, hc.mono e⟩
end
end Eyes

set_option Elab.async false
set_option linter.all false
set_option maxRecDepth 100000
set_option maxHeartbeats 4000000
/-! Own errors with two fields, raised. -/
namespace Eyes
open PySem PySem.Spec PyProof.Rows L2 Evl TL
def spErr2 (C : Addr) (g1 g2 : Str) : Sp := fun vs H Q _ => ∃ (a : Addr) (v u : V), vs = [.ref a, v, u] ∧ H a = some (exo a C none) ∧ ∀ d, H d = none → d ≠ a → Q .non (upd (upd (upd H d (exd d [(g1, v)])) a (exo a C (some d))) d (exd d [(g2, u), (g1, v)]))
theorem gone_to2 {H1 : Hp} {a d : Addr} {o1 o2 o3 o4 o5 : HO} (n : H1 a = none) (ne : d ≠ a) : upd (del (upd (upd (upd (upd H1 a o1) d o2) a o3) d o4) a) d o5 = upd H1 d o5 := by
  funext b
  by_cases hb : b = d
  · rw [hb, upd_same, upd_same]
  · rw [upd_ne hb, upd_ne hb]
    by_cases ha : b = a
    · rw [ha, del_same, n]
    · rw [del_ne ha, upd_ne hb, upd_ne ha, upd_ne hb, upd_ne ha]
section
variable {X : Cx} {W : WX} {e e2 : Expr} {ta : TA} {p pos pos2 : Pos} {x g1 g2 qual : Str} {C : Addr} {st : Stmt} {ps : List Str} {j k : Nat}
theorem raise2_by {H1 : Hp} {v u : V} {Q : XK} (q : ∀ d, H1 d = none → Q (.ref C) (some d) (upd H1 d (.xd [(g2, u), (g1, v)]))) :
    [v, u].length ≤ 1000 ∧ ∀ a, H1 a = none → spErr2 C g1 g2 (.ref a :: ([v, u] ++ [])) (upd H1 a (exo a C none)) (fun v H2 => v = .non ∧ ∃ (d : Addr) (fs : List (Str × V)), H2 a = some (exo a C (some d)) ∧ H2 d = some (exd d fs) ∧ H1 d = none ∧ Q (.ref C) (some d) (upd (del H2 a) d (.xd fs))) (fun _ _ _ => False) := by
  refine ⟨by show 2 ≤ 1000; decide, fun a na => ⟨a, v, u, rfl, upd_same, fun d nd ne => ?_⟩⟩
  rw [upd_ne ne] at nd
  refine ⟨rfl, d, _, (upd_ne ne.symm).trans upd_same, upd_same, nd, ?_⟩
  rw [gone_to2 na ne]
  exact q d nd
theorem ps_raise2 (T : ErrAt X.K X.mg x C qual st ps) (F : ∀ f fd, Fun X.K "__init__" qual st f fd → Binds X.K fd ps [] → FnOk X.prog X.w X.K X.mg X.base CX0 j f fd ps (spErr2 C g1 g2)) (hc : X.calm = true) (tk : Takes X W) (hr : Room k X.A) (ha : PA X [e, e2] ta) (hj : j + 1 ≤ k := by first | decide | omega) (hg : Gl X x := by rfl)
    (hdb : (x == ("__debug__" : Str)) = false := by decide) (he : starEach [e, e2] X.env = (false, eval e X.env) :: starEach [e2] X.env := by rfl) (hpl : (backTo pos (starEach [e2] X.env)).any (·.1) = false := by rfl) :
    PS X (.Raise (some (.Call (.Name x p) [e, e2] [] pos)) none pos2) (fun _ σ H => tMkO C (spErr2 C g1 g2) [] ta σ H fun cls d H' => W cls d σ H') := by
  obtain ⟨f, fd, i1, i2, F0, hb⟩ := T.fn
  exact ps_raise hc tk (pmk_oex T.oex i1 i2 (F f fd F0 hb) (hr.mono hj) hb .nil (fun _ _ _ _ _ _ _ h => h.elim) hg T.gC ha hdb he hpl)
end
end Eyes

set_option Elab.async false
set_option linter.all false
set_option maxRecDepth 100000
set_option maxHeartbeats 4000000
namespace Eyes
open PySem PySem.Spec PyProof.Rows L2 Evl TL
/-! ### building, where it may be refused -/
structure Fair (k : Bool) (cs : List Ci) : Prop where
  ne : cs ≠ []
  fine : ∀ c ∈ cs, c.fine
  deep : ∀ c ∈ cs, c.depth ≤ 20
  few : cs.length ≤ 1400
theorem flat_deepB {k : Bool} {n : Nat} : ∀ {cs : List Ci}, (∀ c ∈ cs, c.depth ≤ n) → ∀ d ∈ flat k cs, d.depth ≤ n
  | [], _, d, hd => by cases hd
  | c :: r, h, d, hd => by
    unfold flat at hd
    have hc := h c List.mem_cons_self
    rcases List.mem_append.mp hd with hd | hd
    · by_cases g : c.isK k = true
      · rw [if_pos g] at hd
        cases c with
        | eye n => cases g
        | node j ps =>
          have hd2 : d ∈ ps := hd
          have h1 := depths_le hd2
          have h2 : 1 + depths ps ≤ n := hc
          omega
      · rw [if_neg g] at hd
        rw [List.mem_singleton.mp hd]
        exact hc
    · exact flat_deepB (fun e he => h e (List.mem_cons_of_mem _ he)) d hd
section
variable {k : Bool} {cs : List Ci}
theorem Fair.pts_ne (g : Fair k cs) : pts k cs ≠ [] := dd_ne (flat_ne (fun c hc => (g.fine c hc).1) g.ne)
theorem Fair.flat_len (g : Fair k cs) : (flat k cs).length ≤ 84000 := by
  have := Eyes.flat_len (k := k) g.fine
  have := g.few
  omega
theorem Fair.pts_fine (g : Fair k cs) : ∀ c ∈ pts k cs, c.fine := fun c hc => by
  rcases dd_sub hc with h | h
  · cases h
  · exact flat_fine g.fine c h
theorem Fair.pts_deep (g : Fair k cs) : ∀ c ∈ pts k cs, c.depth ≤ 20 := fun c hc => by
  rcases dd_sub hc with h | h
  · cases h
  · exact flat_deepB g.deep c h
theorem Fair.one (g : Fair k cs) {c : Ci} (h : pts k cs = [c]) : over (mkC k cs) = none := by
  rw [mkC_one h]
  exact over_none.mpr ⟨(g.pts_fine c (by rw [h]; exact List.mem_cons_self)).2, g.pts_deep c (by rw [h]; exact List.mem_cons_self)⟩
theorem Fair.good (g : Fair k cs) (h : over (mkC k cs) = none) : Good k cs := ⟨g.ne, g.fine, g.few, (over_none.mp h).1, (over_none.mp h).2⟩
end
def spBuiltX (K : PySem.W.Frag) (AA : Adr) : Sp := fun vs H Q E => ∃ (l : Addr) (us : List V) (k : Bool) (cs : List Ci), vs = [.str (kindS k), .ref l] ∧ SqLT K H l us ∧ CisAt AA.Circle H us cs ∧ Fair k cs ∧ (over (mkC k cs) = none → ∀ v H', Ex H H' → CiAt AA.Circle H' v (mkC k cs) → Q v H') ∧
  ∀ z, over (mkC k cs) = some z → ∀ d H', H d = none → Ex H H' → H' d = some (.xd [("most", .int z.2), ("what", .str z.1)]) → E (.ref AA.TooMany) (some d) H'
section
variable {P : Program} {w : World} {K : PySem.W.Frag} {mg : Str → Option Value} {base : Heap} {AA : Adr}
theorem ok_TooMany___init (T : Txt K mg AA) {f : Addr} {fd : FuncData} (F : Fun K "__init__" "TooMany.__init__" s_TooMany___init f fd) (hb : Binds K fd p_TooMany___init []) : FnOk P w K mg base CX0 1 f fd p_TooMany___init (spErr2 AA.TooMany "what" "most") :=
  F.ok sc_TooMany___init (fun vs H Q E h => by
    obtain ⟨a, v, u, rfl, _⟩ := h
    rfl) fun cdv A outer s H vs Q E hr h => by
    obtain ⟨a, v, u, rfl, ha, q⟩ := h
    refine ⟨_, (pss_cons (ps_ost (pv 0) (pv 1))
      (pss_one (ps_ost (pv 0) (pv 2)))), ?_⟩
    exact ⟨v, rfl, .ref a, rfl, a, AA.TooMany, rfl, T.e_TooMany.oex, T.a_TooMany_what, .inl ⟨ha, fun dx hd hne => ⟨u, rfl, .ref a, rfl, a, AA.TooMany, rfl, T.e_TooMany.oex, T.a_TooMany_most, .inr ⟨dx, _, upd_same, (upd_ne hne).trans upd_same, by show 1 ≤ 900; decide, q dx hd hne⟩⟩⟩⟩
theorem ok_builtX (T : Txt K mg AA) : PrX P w K mg base "built" s_built p_built 6 (spBuiltX K AA) := by
  refine prx_mk T.f_built sc_built (fun vs H Q E h => ?_) (fun f cdv A outer s H vs Q E hr h tk => ?_)
  · obtain ⟨l, us, k, cs, rfl, _⟩ := h
    rfl
  · obtain ⟨l, us, k, cs, rfl, hl, hc, g, q, qx⟩ := h
    refine ⟨_, (pss_cons (ps_set (i := 2) sc_built.nd rfl (.inl rfl) (pcall (ok_without_repeats T) hr (pa_cons (pcall (ok_flattened T) hr (pa_cons (pv 0) (pa_cons (pv 1) pa_nil))) pa_nil)))
      (pss_cons (ps_if (pt_cmpR op_eq (pe_callB (call_len_seqK (K := K) rfl) (by rfl) T.n_len PySem.boot_len (pa_cons (pv 2) pa_nil)) pe_int (nomark _))
      (pss_one (ps_ret (pe_ix (ix_listK (K := K) rfl) (pv 2) pe_int (fun _ _ => rfl))))
      pss_nil)
      (pss_cons (ps_if (pt_cmpR op_gt (pcall (ok_size_of T) hr (pa_cons (pv 2) pa_nil)) (ClX.pe_cval (pe_glob (v := .ref AA.Circle) (by rfl) T.m_Circle rfl)) (nomark _))
      (pss_one (ps_raise2 T.e_TooMany (fun _ _ F b => ok_TooMany___init T F b) rfl tk hr (pa_cons pe_str (pa_cons (ClX.pe_cval (pe_glob (v := .ref AA.Circle) (by rfl) T.m_Circle rfl)) pa_nil))))
      pss_nil)
      (pss_cons (ps_if (pt_cmpR op_gt (pcall (ok_depth_over T) hr (pa_cons (pv 2) pa_nil)) (pgI T.m_MOST_DEPTH) (nomark _))
      (pss_one (ps_raise2 T.e_TooMany (fun _ _ F b => ok_TooMany___init T F b) rfl tk hr (pa_cons pe_str (pa_cons (pgI T.m_MOST_DEPTH) pa_nil))))
      pss_nil)
      (pss_one (ps_ret (pmake T.m_Circle (ok_Circle___init T) hr (pa_cons (pv 0) (pa_cons pe_str (pa_cons (pv 2) pa_nil)))))))))), ?_⟩
    have hfl := g.flat_len
    refine ⟨_, rfl, _, rfl, l, us, k, cs, rfl, hl, hc, by omega, fun l2 ws H1 hl2 e1 h2 hc2 => ?_⟩
    refine ⟨l2, ws, flat k cs, rfl, sq_of h2, hc2.mono e1, by omega, fun c hc => by have := fine_len (flat_fine g.fine c hc); omega, fun l3 ws3 H3 hl3 e3 h3 hc3 => ?_⟩
    have e13 := e1.trans e3
    have hc3 := hc3.mono e3
    have hlen3 : ws3.length ≤ 84000 := by
      have h4 := hc3.length
      have h5 := dd_len (acc := []) (cs := flat k cs)
      rw [List.length_nil] at h5
      omega
    refine ⟨_, rfl, l3, ws3, rfl, .inl (sq_of h3), rfl, _, rfl, ?_⟩
    have hpl : ws3.length = (pts k cs).length := hc3.length
    refine ite2 (fun h => ?_) (fun h => ?_)
    · have h : (V.int (ws3.length : Nat)) = V.int 1 := of_decide_eq_true h
      have h : ((ws3.length : Nat) : Int) = 1 := V.int.inj h
      obtain ⟨c, hc1⟩ := List.length_eq_one_iff.mp (show (pts k cs).length = 1 by omega)
      obtain ⟨v, hv⟩ := List.length_eq_one_iff.mp (show ws3.length = 1 by omega)
      subst hv
      refine ⟨_, rfl, l3, [v], 0, v, rfl, rfl, sq_of h3, rfl, ?_⟩
      have hc4 : CisAt AA.Circle H3 [v] (pts k cs) := hc3
      rw [hc1] at hc4
      have hv : CiAt AA.Circle H3 v c := by
        cases hc4 with
        | cons h _ => exact h
      refine q (g.one hc1) v H3 e13 ?_
      rw [mkC_one hc1]
      exact hv
    · have h1 : (pts k cs).length ≠ 1 := fun z => h (decide_eq_true (by rw [hpl, z]; rfl))
      have hm := mkC_more h1
      have hsz : (mkC k cs).size = sizes (pts k cs) := by
        rw [hm]
        rfl
      have hdp : (mkC k cs).depth = 1 + depths (pts k cs) := by
        rw [hm]
        rfl
      have hne := g.pts_ne
      have hfine := g.pts_fine
      refine ⟨_, rfl, l3, ws3, pts k cs, rfl, sq_of h3, hc3, by omega, True.intro, fun H4 e4 => ?_⟩
      obtain ⟨tk2, hcr, hcv⟩ := T.k_Circle_LIMIT
      refine ⟨AA.Circle, _, _, _, rfl, hcr, hcv, _, _, rfl, rfl, _, rfl, ?_⟩
      have e14 := e13.trans e4
      by_cases h60 : 60 < sizes (pts k cs)
      · have hf1 : decide ((60 : Int) < (sizes (pts k cs) : Int)) = true := decide_eq_true (by omega)
        rw [hf1]
        refine iteT ?_
        refine ⟨AA.Circle, _, _, _, rfl, hcr, hcv, raise2_by fun d hd => qx ("eyes", 60) ?_ d _ (fresh_back e14 hd) (e14.trans (Ex.new hd)) upd_same⟩
        unfold over
        rw [hsz, if_pos h60]
      · have hf1 : decide ((60 : Int) < (sizes (pts k cs) : Int)) = false := decide_eq_false (by omega)
        rw [hf1]
        refine iteF ?_
        refine ⟨_, rfl, l3, ws3, pts k cs, rfl, sq_of (e4 _ _ h3), hc3.mono e4, by omega, hne, fun H5 e5 => ⟨_, _, rfl, rfl, _, rfl, ?_⟩⟩
        have e45 := e4.trans e5
        have e15 := e13.trans e45
        by_cases h20 : 20 < 1 + depths (pts k cs)
        · have hf2 : decide ((20 : Int) < 1 + (depths (pts k cs) : Int)) = true := decide_eq_true (by omega)
          rw [hf2]
          refine iteT (raise2_by fun d hd => qx ("depth", 20) ?_ d _ (fresh_back e15 hd) (e15.trans (Ex.new hd)) upd_same)
          unfold over
          rw [hsz, if_neg h60, hdp, if_pos h20]
        · have hf2 : decide ((20 : Int) < 1 + (depths (pts k cs) : Int)) = false := decide_eq_false (by omega)
          rw [hf2]
          refine iteF ?_
          have hpn : (pts k cs).length ≤ 60 := Nat.le_trans (sizes_len _ (oks_mem.mpr fun c hc => (hfine c hc).1)) (by omega)
          refine ⟨_, rfl, _, rfl, fun x dx hx hdx hne2 => ?_⟩
          have eX : Ex H5 (upd (upd H5 dx (.own x)) x (.ins AA.Circle dx [])) := (Ex.new hdx).trans (Ex.new ((upd_ne (Ne.symm hne2)).trans hx))
          refine ⟨x, dx, l3, ws3, .node k (pts k cs), H5, rfl, hx, eX, upd_same, sq_of (e45 _ _ h3), hc3.mono e45, by omega, fun c hc => by have := fine_len (hfine c hc); omega, fun j hj => hne (by injection hj), fun H6 e6 hA => ⟨rfl, ?_⟩⟩
          refine q (over_none.mpr ⟨by omega, by omega⟩) _ H6 (e15.trans e6) ?_
          rw [hm]
          exact hA
end
end Eyes

set_option Elab.async false
set_option linter.all false
set_option maxRecDepth 100000
set_option maxHeartbeats 4000000
namespace Eyes
open PySem PySem.Spec PyProof.Rows L2 Evl TL
def told (c : Ci) (ys : List Str) : PyData :=
  .list [.str c.kind, .str c.name, .int (c.size : Nat), .int (c.depth : Nat), .list (ys.map PyData.str), .str c.str, .str (reprC c), .list (c.parts.map fun d => .str d.str), .list (c.parts.map fun d => .str d.kind)]
theorem Reps.of_strs {α : Type} {H : Hp} (f : α → Str) : ∀ xs : List α, Reps H (xs.map fun x => V.str (f x)) (xs.map fun x => PyData.str (f x))
  | [] => .nil
  | _ :: r => .cons (.str _) (Reps.of_strs f r)
theorem Reps.of_str {H : Hp} (xs : List Str) : Reps H (xs.map V.str) (xs.map PyData.str) := Reps.of_strs (fun x => x) xs
def spLeaves (n : Nat) : Sp := fun vs H Q _ => ∃ (v : V) (c : Ci), vs = [v] ∧ Rep H v c.data ∧ c.depth < n ∧ c.fine ∧ ∀ l H', H l = none → Ex H H' → H' l = some (.lst (c.leaves.map V.str)) → Q (.ref l) H'
def spTold (C : Addr) : Sp := fun vs H Q _ => ∃ (v : V) (c : Ci), vs = [v] ∧ CiAt C H v c ∧ c.fine ∧ c.depth ≤ 20 ∧ ∀ v2 ys H', IsEyes c ys → Ex H H' → Rep H' v2 (told c ys) → Q v2 H'
def spDue : Sp := fun vs H Q _ => ∃ (v : V) (c : Ci), vs = [v] ∧ Rep H v c.data ∧ c.fine ∧ c.depth ≤ 20 ∧ ∀ v2 ys H', IsEyes c ys → Ex H H' → Rep H' v2 (told c ys) → Q v2 H'
section
variable {P : Program} {w : World} {K : PySem.W.Frag} {mg : Str → Option Value} {base : Heap} {AA : Adr}
theorem ok_law_leaves (T : Txt K mg AA) : ∀ n : Nat, Pr P w K mg base "_law_leaves" s_law_leaves p_law_leaves n (spLeaves n)
  | 0 => by
    obtain ⟨f, fd, F, hb, hm⟩ := T.f_law_leaves
    exact ⟨f, fd, hm, F, hb, fun vs H Q E h => by
      obtain ⟨x, d, _, _, h, _⟩ := h
      omega, fun A outer s H args us vs Q E _ _ _ _ h => by
      obtain ⟨x, d, _, _, h, _⟩ := h
      omega⟩
  | n + 1 => by
    have G := ok_law_leaves T n
    refine pr_mk T.f_law_leaves sc_law_leaves (fun vs H Q E h => ?_) (fun f cdv A outer s H vs Q E hr h => ?_)
    · obtain ⟨v, c, rfl, _⟩ := h
      rfl
    · obtain ⟨v, c, rfl, hA, hd, hf, q⟩ := h
      refine ⟨_, (pss_cons (ps_if (pt_cmpR op_eq (pe_ix (ix_tupK (K := K) rfl) (pv 0) pe_int (fun _ _ => rfl)) pe_str (nomark _))
      (pss_one (ps_ret (pe_lst (pa_cons (pe_ix (ix_tupK (K := K) rfl) (pv 0) pe_int (fun _ _ => rfl)) pa_nil))))
      pss_nil)
      (pss_cons (ps_set (i := 1) sc_law_leaves.nd rfl (.inl rfl) (pe_lst pa_nil))
      (pss_cons (ps_for PassesOwn.never rfl (pi_tup (pe_ix (ix_tupK (K := K) rfl) (pv 0) pe_int (fun _ _ => rfl))) (pg_name (i := 2) sc_law_leaves.nd rfl (.inl rfl))
      (pss_one (ps_set (i := 1) sc_law_leaves.nd rfl (.inl rfl) (pe_op op_cat (pv 1) (pcall G hr (pa_cons (pv 2) pa_nil))))))
      (pss_one (ps_ret (pv 1)))))), ?_⟩
      obtain ⟨a, x, rfl, ha, hx1, hx2⟩ := hA.node
      refine ⟨_, rfl, a, _, 0, _, rfl, rfl, st_of ha, rfl, rfl, _, rfl, ?_⟩
      cases c with
      | eye z =>
        refine iteT ?_
        rw [hx1 z rfl] at ha
        exact ⟨_, rfl, a, _, 1, _, rfl, rfl, st_of ha, rfl, by show 1 ≤ sizeLine; decide, fun l hl => q l _ hl (Ex.new hl) upd_same⟩
      | node k ps =>
        have e2 : (decide ((V.str (Ci.node k ps).kind) = V.str (Str.ofString "eye"))) = false := decide_eq_false fun h => kindS_eye k (V.str.inj h)
        rw [e2]
        refine iteF ?_
        obtain ⟨b, ws, rfl, hb, hr2⟩ := hx2 k ps rfl
        have hwl := hr2.lengthC
        have hs : sizes ps ≤ 60 := hf.2
        have hdn : 1 + depths ps < n + 1 := hd
        have hpf : ∀ c ∈ ps, c.fine := fun c hc => parts_fine hf (show c ∈ (Ci.node k ps).parts from hc)
        refine ⟨by show 0 ≤ sizeLine; decide, fun l0 hl0 => ⟨_, rfl, a, _, 1, _, rfl, rfl, st_of ((Ex.new hl0) _ _ ha), rfl, b, rfl, ⟨ws, st_of ((Ex.new hl0) _ _ hb)⟩, for_tup (xs := ws) (fun i σ H' => ∃ (l : Addr) (y : Option V), σ = [some (.ref a), some (.ref l), y] ∧ Ex H H' ∧ H l = none ∧ H' l = some (.lst ((leavess (ps.take i)).map V.str))) ⟨l0, none, rfl, Ex.new hl0, hl0, upd_same⟩ (fun i σ H' _ hp => ?_) (fun i x σ H' hx hp => ?_) (fun σ H' hp => ?_)⟩⟩
        · obtain ⟨l, y, rfl, e, _, _⟩ := hp
          exact st_of (e _ _ hb)
        · obtain ⟨l, y, rfl, e, hl, h1⟩ := hp
          obtain ⟨c, hc, hAc⟩ := hr2.getC hx
          have hcm := List.mem_of_getElem? hc
          have hcd := depths_le hcm
          have htk : ps.take (i + 1) = ps.take i ++ [c] := by
            rw [List.take_add_one, hc]
            rfl
          have hle : (leavess (ps.take i)).length + c.leaves.length ≤ 60 := by
            rw [leavess_len, Ci.leaves_len]
            have h9 : sizes ps = sizes (ps.take (i + 1)) + sizes (ps.drop (i + 1)) := by rw [← sizes_app, List.take_append_drop]
            have h8 : sizes (ps.take (i + 1)) = sizes (ps.take i) + c.size := by
              rw [htk, sizes_app]
              rfl
            omega
          refine ⟨_, rfl, _, rfl, x, c, rfl, hAc.mono e, by omega, hpf c hcm, fun l2 H2 hl2 e2 h2 => ?_⟩
          refine ⟨l, l2, _, _, rfl, rfl, e2 _ _ h1, h2, ?_, fun l3 hl3 => ⟨l3, _, rfl, (e.trans e2).trans (Ex.new hl3), fresh_back (e.trans e2) hl3, ?_⟩⟩
          · rw [List.length_map, List.length_map]
            exact sz_of (by omega)
          · rw [upd_same, htk, leavess_app, List.map_append]
            show _ = some (HO.lst (_ ++ (c.leaves ++ []).map V.str))
            rw [List.append_nil]
        · obtain ⟨l, y, rfl, e, hl, h1⟩ := hp
          rw [List.take_of_length_le (by rw [hwl]; exact Nat.le_refl _)] at h1
          exact ⟨_, rfl, q l H' hl e h1⟩
theorem ok_law_told_of (T : Txt K mg AA) : Pr P w K mg base "_law_told_of" s_law_told_of p_law_told_of 26 (spTold AA.Circle) := by
  refine pr_mk T.f_law_told_of sc_law_told_of (fun vs H Q E h => ?_) (fun f cdv A outer s H vs Q E hr h => ?_)
  · obtain ⟨v, c, rfl, _⟩ := h
    rfl
  · obtain ⟨v, c, rfl, hc, hf, hd, q⟩ := h
    refine ⟨_, (pss_one (ps_ret (pe_lst (pa_cons (pe_fldK (K := K) rfl (pv 0) rfl) (pa_cons (pe_fldK (K := K) rfl (pv 0) rfl) (pa_cons (pe_fldK (K := K) rfl (pv 0) rfl) (pa_cons (pe_fldK (K := K) rfl (pv 0) rfl) (pa_cons (pmeth0 T.c_Circle (ok_Circle_eyes T 25) hr (pv 0)) (pa_cons (pe_callTy (call_strOwn (ok_Circle___str T) hr) (by rfl) T.n_str PyProof.Rows.boot_str (pa_cons (pv 0) pa_nil)) (pa_cons (pe_callB (call_reprOwn (ok_Circle___repr T) hr) (by rfl) T.n_repr PyProof.Rows.boot_repr (pa_cons (pv 0) pa_nil)) (pa_cons (pe_lc (own := [("_law_x", 1)]) (g := gName 1) (tt := tYes) rfl sc_law_told_of.nd (pi_list (pmeth0 T.c_Circle (ok_Circle_parts T) hr (pv 0))) (blkOk_by (own := [("_law_x", 1)]) (N := n_law_told_of) (sc := defScope s_law_told_of) (by decide +kernel)) (fun _ _ _ _ _ => (pg_name (i := 1) sc_law_told_of.nd rfl (.inl rfl))) (fun _ _ _ _ _ => pts_nil) (fun _ _ _ _ _ => (pe_callTy (call_strOwn (ok_Circle___str T) hr) (by rfl) T.n_str PyProof.Rows.boot_str (pa_cons (pv 1) pa_nil)))) (pa_cons (pe_lc (own := [("_law_x", 1)]) (g := gName 1) (tt := tYes) rfl sc_law_told_of.nd (pi_list (pmeth0 T.c_Circle (ok_Circle_parts T) hr (pv 0))) (blkOk_by (own := [("_law_x", 1)]) (N := n_law_told_of) (sc := defScope s_law_told_of) (by decide +kernel)) (fun _ _ _ _ _ => (pg_name (i := 1) sc_law_told_of.nd rfl (.inl rfl))) (fun _ _ _ _ _ => pts_nil) (fun _ _ _ _ _ => (pe_fldK (K := K) rfl (pv 1) rfl))) pa_nil)))))))))))), ?_⟩
    obtain ⟨p, dx, lp, us, rfl, hp, hlp, hcs⟩ := hc.at_
    have hz := fine_len hf
    have hpf : ∀ d ∈ c.parts, d.fine := fun d hd => parts_fine hf hd
    have hpl : us.length ≤ 60 := by
      rw [hcs.length]
      exact parts_len hf
    refine ⟨_, rfl, p, AA.Circle, dx, _, _, rfl, hp, T.c_Circle, T.a_Circle_kind, fl_kind, _, rfl, p, AA.Circle, dx, _, _, rfl, hp, T.c_Circle, T.a_Circle_name, fl_name, _, rfl, p, AA.Circle, dx, _, _, rfl, hp, T.c_Circle, T.a_Circle_size, fl_size, _, rfl, p, AA.Circle, dx, _, _, rfl, hp, T.c_Circle, T.a_Circle_depth, fl_depth, ?_⟩
    have noF : ∀ {m : Str}, ¬ m = ("_text" : Str) → ¬ m = ("depth" : Str) → ¬ m = ("size" : Str) → ¬ m = ("_parts" : Str) → ¬ m = ("name" : Str) → ¬ m = ("kind" : Str) → (flds c.kind c.name lp c.size c.depth c.str).lookup m = none := fun h1 h2 h3 h4 h5 h6 => fl_no h1 h2 h3 h4 h5 h6
    refine ⟨_, rfl, p, dx, _, rfl, hp, fl_no (by decide +kernel) (by decide +kernel) (by decide +kernel) (by decide +kernel) (by decide +kernel) (by decide +kernel), _, c, rfl, hc, by omega, hf, fun ys l2 H1 hys hl2 e1 h1 => ?_⟩
    refine ⟨_, rfl, p, dx, _, rfl, e1 _ _ hp, _, c, rfl, hc.mono e1, by omega, fun H2 e2 => ⟨_, rfl, ?_⟩⟩
    have e12 := e1.trans e2
    refine ⟨_, rfl, p, dx, _, rfl, e12 _ _ hp, _, c, rfl, hc.mono e12, by omega, fun H3 e3 => ⟨_, rfl, ?_⟩⟩
    have e13 := e12.trans e3
    refine ⟨_, rfl, p, dx, _, rfl, e13 _ _ hp, fl_no (by decide +kernel) (by decide +kernel) (by decide +kernel) (by decide +kernel) (by decide +kernel) (by decide +kernel), p, dx, lp, us, _, _, _, _, _, rfl, e13 _ _ hp, e13 _ _ hlp, fun l3 hl3 => ⟨l3, rfl, ⟨us, sq_of upd_same⟩, fun D hD => lc_it (walk_list (xs := us)) (fun i H' => H3 D = none ∧ Ex H3 H' ∧ H' l3 = some (.lst us) ∧ H' D = some (.lst ((c.parts.take i).map fun d => V.str d.str))) ⟨fresh_back (Ex.new hl3) hD, (Ex.new hl3).trans (Ex.new hD), Ex.new hD _ _ upd_same, upd_same⟩ (fun _ _ _ hp => sq_of hp.2.2.1) (fun i v H4 H5 hi hp5 hy => ?_) (fun H4 hp4 => ?_)⟩⟩
    · obtain ⟨rfl, hv⟩ := hy
      obtain ⟨d, hg, hA⟩ := hcs.get hv
      obtain ⟨h2, h3, h4, h5⟩ := hp5
      have hdl := fine_len (hpf d (List.mem_of_getElem? hg))
      obtain ⟨p2, dx2, lp2, vs2, rfl, hp2, hlp2, hcs2⟩ := hA.at_
      have eh := e13.trans h3
      refine ⟨rfl, _, rfl, p2, dx2, _, rfl, eh _ _ hp2, _, d, rfl, hA.mono eh, by omega, fun H6 e6 => ⟨_, rfl, _, e6 _ _ h5, ?_, h2, (h3.trans e6).mut h2, ?_, ?_⟩⟩
      · rw [List.length_map, List.length_take]
        exact sz_lt (by omega)
      · have hne : l3 ≠ D := ne_of_none upd_same hD
        rw [upd_ne hne]
        exact e6 _ _ h4
      · rw [upd_same, List.take_add_one, hg, List.map_append]
        rfl
    · obtain ⟨h2, e4, _, h4⟩ := hp4
      rw [List.take_of_length_le (by rw [hcs.length]; exact Nat.le_refl _)] at h4
      have e14 := e13.trans e4
      refine ⟨_, rfl, p, dx, _, rfl, e14 _ _ hp, fl_no (by decide +kernel) (by decide +kernel) (by decide +kernel) (by decide +kernel) (by decide +kernel) (by decide +kernel), p, dx, lp, us, _, _, _, _, _, rfl, e14 _ _ hp, e14 _ _ hlp, fun l6 hl6 => ⟨l6, rfl, ⟨us, sq_of upd_same⟩, fun D2 hD2 => lc_it (walk_list (xs := us)) (fun i H' => H4 D2 = none ∧ Ex H4 H' ∧ H' l6 = some (.lst us) ∧ H' D2 = some (.lst ((c.parts.take i).map fun d => V.str d.kind))) ⟨fresh_back (Ex.new hl6) hD2, (Ex.new hl6).trans (Ex.new hD2), Ex.new hD2 _ _ upd_same, upd_same⟩ (fun _ _ _ hp => sq_of hp.2.2.1) (fun i v H6 H5 hi hp5 hy => ?_) (fun H6 hp6 => ?_)⟩⟩
      · obtain ⟨rfl, hv⟩ := hy
        obtain ⟨d, hg, hA⟩ := hcs.get hv
        obtain ⟨h2, h3, h7, h5⟩ := hp5
        obtain ⟨p2, dx2, lp2, vs2, rfl, hp2, hlp2, hcs2⟩ := hA.at_
        have eh := e14.trans h3
        refine ⟨rfl, _, rfl, p2, AA.Circle, dx2, _, _, rfl, eh _ _ hp2, T.c_Circle, T.a_Circle_kind, fl_kind, _, h5, ?_, h2, h3.mut h2, ?_, ?_⟩
        · rw [List.length_map, List.length_take]
          exact sz_lt (by omega)
        · have hne : l6 ≠ D2 := ne_of_none upd_same hD2
          rw [upd_ne hne]
          exact h7
        · rw [upd_same, List.take_add_one, hg, List.map_append]
          rfl
      · obtain ⟨_, e6, _, h6⟩ := hp6
        rw [List.take_of_length_le (by rw [hcs.length]; exact Nat.le_refl _)] at h6
        refine ⟨by show 9 ≤ sizeLine; decide, fun b hb => ?_⟩
        have e7 : ∀ {o : HO}, Ex H6 (upd H6 b o) := fun {o} => Ex.new hb
        refine q _ ys _ hys ((e14.trans e6).trans e7) (.lst upd_same (.cons (.str _) (.cons (.str _) (.cons (.int _) (.cons (.int _) (.cons (.lst (e7 _ _ (e6 _ _ (e4 _ _ (e3 _ _ (e2 _ _ h1))))) (Reps.of_str _)) (.cons (.str _) (.cons (.str _) (.cons (.lst (e7 _ _ (e6 _ _ h4)) (Reps.of_strs _ _)) (.cons (.lst (e7 _ _ h6) (Reps.of_strs _ _)) .nil))))))))))
theorem ok_law_due_of (T : Txt K mg AA) : Pr P w K mg base "_law_due_of" s_law_due_of p_law_due_of 26 spDue := by
  refine pr_mk T.f_law_due_of sc_law_due_of (fun vs H Q E h => ?_) (fun f cdv A outer s H vs Q E hr h => ?_)
  · obtain ⟨v, c, rfl, _⟩ := h
    rfl
  · obtain ⟨v, c, rfl, hA, hf, hd, q⟩ := h
    refine ⟨_, (pss_cons (ps_par (i := 1) (j := 2) rfl sc_law_due_of.nd rfl rfl (by decide) rfl rfl (pa_cons (pcall (ok_law_words T 25) hr (pa_cons (pv 0) pa_nil)) (pa_cons (pe_cmpR op_eq (pe_ix (ix_tupK (K := K) rfl) (pv 0) pe_int (fun _ _ => rfl)) pe_str (nomark _)) pa_nil)) rfl)
      (pss_cons (ps_set (i := 3) sc_law_due_of.nd rfl (.inl rfl) (pe_lst (pa_cons (pe_ix (ix_tupK (K := K) rfl) (pv 0) pe_int (fun _ _ => rfl)) (pa_cons (pe_ifExp (pt_val (pv 2)) (pe_ix (ix_tupK (K := K) rfl) (pv 0) pe_int (fun _ _ => rfl)) pe_str) (pa_cons (pcall (ok_law_size T 25) hr (pa_cons (pv 0) pa_nil)) (pa_cons (pcall (ok_law_depth T 25) hr (pa_cons (pv 0) pa_nil)) (pa_cons (pe_sortedSet (K := K) rfl rfl (pcall (ok_law_leaves T 25) hr (pa_cons (pv 0) pa_nil)) (by rfl) T.n_sorted (by rfl) T.n_set) (pa_cons (pv 1) pa_nil))))))))
      (pss_cons (ps_set (i := 4) sc_law_due_of.nd rfl (.inl rfl) (pe_ifExp (pt_val (pv 2)) (pe_lst pa_nil) (pe_callTy call_list_of (by rfl) T.n_list PyProof.Rows.boot_list (pa_cons (pe_ix (ix_tupK (K := K) rfl) (pv 0) pe_int (fun _ _ => rfl)) pa_nil))))
      (pss_one (ps_ret (pe_op op_cat (pv 3) (pe_lst (pa_cons (pe_op op_add_str (pe_op op_add_str pe_str (pv 1)) pe_str) (pa_cons (pe_lc (own := [("_law_x", 5)]) (g := gName 5) (tt := tYes) rfl sc_law_due_of.nd (pi_list (pv 4)) (blkOk_by (own := [("_law_x", 5)]) (N := n_law_due_of) (sc := defScope s_law_due_of) (by decide +kernel)) (fun _ _ _ _ _ => (pg_name (i := 5) sc_law_due_of.nd rfl (.inl rfl))) (fun _ _ _ _ _ => pts_nil) (fun _ _ _ _ _ => (pcall (ok_law_words T 25) hr (pa_cons (pv 5) pa_nil)))) (pa_cons (pe_lc (own := [("_law_x", 5)]) (g := gName 5) (tt := tYes) rfl sc_law_due_of.nd (pi_list (pv 4)) (blkOk_by (own := [("_law_x", 5)]) (N := n_law_due_of) (sc := defScope s_law_due_of) (by decide +kernel)) (fun _ _ _ _ _ => (pg_name (i := 5) sc_law_due_of.nd rfl (.inl rfl))) (fun _ _ _ _ _ => pts_nil) (fun _ _ _ _ _ => (pe_ix (ix_tupK (K := K) rfl) (pv 5) pe_int (fun _ _ => rfl)))) pa_nil)))))))))), ?_⟩
    obtain ⟨a, x, rfl, ha, hx1, hx2⟩ := hA.node
    have hz := fine_len hf
    have name_by : ∀ {σ : L2.St} {H1 : Hp} (R : VK), σ[0]? = some (some (.ref a)) → Ex H H1 → R (.str c.name) H1 → (if decide (V.str c.kind = V.str (Str.ofString "eye")) = true then tOp (rIxT K) (tVar 0) (tC (V.int 1)) σ H1 R else tC (V.str (Str.ofString "")) σ H1 R) := fun {σ H1} R hs e h => by
      cases c with
      | eye z =>
        refine iteT ?_
        rw [hx1 z rfl] at ha
        exact ⟨_, hs, a, _, 1, _, rfl, rfl, st_of (e _ _ ha), rfl, h⟩
      | node k ps =>
        have e2 : (decide ((V.str (Ci.node k ps).kind) = V.str (Str.ofString "eye"))) = false := decide_eq_false fun h => kindS_eye k (V.str.inj h)
        rw [e2]
        exact iteF h
    have parts_by : ∀ {σ : L2.St} {H1 : Hp} {r : List V → Hp → VK → Prop} (R : VK), (∀ p ys H2 Q, SqT K H2 p ys → (∀ l, H2 l = none → Q (.ref l) (upd H2 l (.lst ys))) → r [.ref p] H2 Q) → σ[0]? = some (some (.ref a)) → Ex H H1 → (∀ l ws H3, Ex H1 H3 → H3 l = some (.lst ws) → Reps H3 ws (datas c.parts) → R (.ref l) H3) → (if decide (V.str c.kind = V.str (Str.ofString "eye")) = true then tLst tNil σ H1 R else tCB r (tCons (tOp (rIxT K) (tVar 0) (tC (V.int 1))) tNil) σ H1 R) := fun {σ H1 r} R hr hs e h => by
      cases c with
      | eye z =>
        refine iteT ?_
        exact ⟨by show 0 ≤ sizeLine; decide, fun l hl => h l [] _ (Ex.new hl) upd_same .nil⟩
      | node k ps =>
        have e2 : (decide ((V.str (Ci.node k ps).kind) = V.str (Str.ofString "eye"))) = false := decide_eq_false fun h => kindS_eye k (V.str.inj h)
        rw [e2]
        refine iteF ?_
        obtain ⟨b, ws, rfl, hb, hr2⟩ := hx2 k ps rfl
        exact ⟨_, hs, a, _, 1, _, rfl, rfl, st_of (e _ _ ha), rfl, hr b ws H1 _ (st_of (e _ _ hb)) fun l hl => h l ws _ (Ex.new hl) upd_same (Reps.mono (e.trans (Ex.new hl)) hr2)⟩
    refine ⟨_, rfl, _, c, rfl, hA, by omega, hf, fun H1 e1 => ⟨_, rfl, a, _, 0, _, rfl, rfl, st_of (e1 _ _ ha), rfl, rfl, _, _, rfl, ?_⟩⟩
    refine ⟨_, rfl, a, _, 0, _, rfl, rfl, st_of (e1 _ _ ha), rfl, _, rfl, _, rfl, name_by _ rfl e1 ?_⟩
    refine ⟨_, rfl, _, c, rfl, hA.mono e1, by omega, hf.big, fun H2 e2 => ?_⟩
    have e12 := e1.trans e2
    refine ⟨_, rfl, _, c, rfl, hA.mono e12, by omega, hf.big, fun H3 e3 => ?_⟩
    have e13 := e12.trans e3
    refine ⟨_, rfl, _, c, rfl, hA.mono e13, by omega, hf, fun l4 H4 hl4 e4 h4 => ⟨l4, c.leaves, rfl, sq_of h4, ?_, fun ys p5 so nd me np => ?_⟩⟩
    · rw [Ci.leaves_len]
      have := hf.2
      omega
    have hys : IsEyes c ys := ⟨so, nd, me⟩
    refine ⟨_, rfl, by show 6 ≤ sizeLine; decide, fun l6 hl6 => ?_⟩
    have e15 := (e13.trans e4).trans (Ex.new (o := .lst (ys.map V.str)) np)
    have e16 := e15.trans (Ex.new (o := .lst [V.str c.kind, V.str c.name, V.int (c.size : Nat), V.int (c.depth : Nat), V.ref p5, V.str c.str]) hl6)
    refine ⟨_, rfl, _, rfl, parts_by _ (fun p ys H2 Q h g => ⟨p, ys, rfl, .inr h, g⟩) rfl e16 (fun l7 ws H7 e7 h7 r7 => ?_)⟩
    have e17 := e16.trans e7
    have hwl := r7.lengthC
    have hpf : ∀ d ∈ c.parts, d.fine := fun d hd => parts_fine hf hd
    have hpd : ∀ d ∈ c.parts, d.depth ≤ 20 := fun d hd2 => by
      cases c with
      | eye z => cases hd2
      | node k ps =>
        have h1 := depths_le (show d ∈ ps from hd2)
        have h2 : 1 + depths ps ≤ 20 := hd
        omega
    have hpl : ws.length ≤ 60 := by
      rw [hwl]
      exact parts_len hf
    have hL : (Str.ofString "Circle(").length = 7 := by decide +kernel
    have hR : (Str.ofString ")").length = 1 := by decide +kernel
    have l1 : (Str.ofString "Circle(" ++ c.str).length = 7 + c.str.length := by rw [len_tl, tl_append, List.length_append, ← len_tl, ← len_tl, hL]
    have hrep : Str.ofString "Circle(" ++ c.str ++ Str.ofString ")" = reprC c := by
      refine ext_tl ?_
      unfold reprC
      rw [tl_append, tl_append, tl_append, tl_append, tl_append]
      rfl
    refine ⟨_, rfl, _, rfl, _, _, rfl, rfl, sz_of (by omega), _, _, rfl, rfl, sz_of (by rw [l1, hR]; omega), ?_⟩
    rw [hrep]
    refine ⟨_, rfl, l7, rfl, ⟨ws, sq_of h7⟩, fun D hD => lc_it (walk_list (xs := ws)) (fun i H' => H7 D = none ∧ Ex H7 H' ∧ H' D = some (.lst ((c.parts.take i).map fun d => V.str d.str))) ⟨hD, Ex.new hD, upd_same⟩ (fun _ _ _ hp => sq_of (hp.2.1 _ _ h7)) (fun i v H3 H5 hi hp5 hy => ?_) (fun H8 hp8 => ?_)⟩
    · obtain ⟨rfl, hv⟩ := hy
      obtain ⟨d, hg, hA2⟩ := r7.getC hv
      obtain ⟨h2, h3, h5⟩ := hp5
      have hdm := List.mem_of_getElem? hg
      refine ⟨rfl, _, rfl, v, d, rfl, Rep.mono h3 hA2, by have := hpd d hdm; omega, hpf d hdm, fun H6 e6 => ⟨_, e6 _ _ h5, ?_, h2, (h3.trans e6).mut h2, ?_⟩⟩
      · rw [List.length_map, List.length_take]
        exact sz_lt (by omega)
      · rw [upd_same, List.take_add_one, hg, List.map_append]
        rfl
    · obtain ⟨h2, e8, h8⟩ := hp8
      rw [List.take_of_length_le (by rw [hwl]; exact Nat.le_refl _)] at h8
      refine ⟨_, rfl, l7, rfl, ⟨ws, sq_of (e8 _ _ h7)⟩, fun D2 hD2 => lc_it (walk_list (xs := ws)) (fun i H' => H8 D2 = none ∧ Ex H8 H' ∧ H' D2 = some (.lst ((c.parts.take i).map fun d => V.str d.kind))) ⟨hD2, Ex.new hD2, upd_same⟩ (fun _ _ _ hp => sq_of (hp.2.1 _ _ (e8 _ _ h7))) (fun i v H3 H5 hi hp5 hy => ?_) (fun H9 hp9 => ?_)⟩
      · obtain ⟨rfl, hv⟩ := hy
        obtain ⟨d, hg, hA2⟩ := r7.getC hv
        obtain ⟨h2, h3, h5⟩ := hp5
        obtain ⟨a2, x2, rfl, ha2, _, _⟩ := hA2.node
        refine ⟨rfl, _, rfl, a2, _, 0, _, rfl, rfl, st_of (h3 _ _ (e8 _ _ ha2)), rfl, _, h5, ?_, h2, h3.mut h2, ?_⟩
        · rw [List.length_map, List.length_take]
          exact sz_lt (by omega)
        · rw [upd_same, List.take_add_one, hg, List.map_append]
          rfl
      · obtain ⟨_, e9, h9⟩ := hp9
        rw [List.take_of_length_le (by rw [hwl]; exact Nat.le_refl _)] at h9
        refine ⟨by show 3 ≤ sizeLine; decide, fun b hb => ?_⟩
        have eb : ∀ {o : HO}, Ex H9 (upd H9 b o) := fun {o} => Ex.new hb
        have e67 : H7 l6 = some (.lst [V.str c.kind, V.str c.name, V.int (c.size : Nat), V.int (c.depth : Nat), V.ref p5, V.str c.str]) := e7 _ _ upd_same
        have e65 : H7 p5 = some (.lst (ys.map V.str)) := e7 _ _ (Ex.new hl6 _ _ upd_same)
        refine ⟨l6, b, _, _, rfl, rfl, eb _ _ (e9 _ _ (e8 _ _ e67)), upd_same, by show 9 ≤ sizeLine; decide, fun z hz => ?_⟩
        refine q _ ys _ hys (e17.trans (e8.trans (e9.trans ((Ex.new hb).trans (Ex.new hz))))) (.lst upd_same (.cons (.str _) (.cons (.str _) (.cons (.int _) (.cons (.int _) (.cons (.lst (((Ex.new hb).trans (Ex.new hz)) _ _ (e9 _ _ (e8 _ _ e65))) (Reps.of_str _)) (.cons (.str _) (.cons (.str _) (.cons (.lst (((Ex.new hb).trans (Ex.new hz)) _ _ (e9 _ _ h8)) (Reps.of_strs _ _)) (.cons (.lst (((Ex.new hb).trans (Ex.new hz)) _ _ h9) (Reps.of_strs _ _)) .nil))))))))))
end
end Eyes

set_option Elab.async false
set_option linter.all false
set_option maxRecDepth 100000
set_option maxHeartbeats 4000000
namespace Eyes
open PySem PySem.Spec PyProof.Rows L2 Evl TL
def spSigned (K : PySem.W.Frag) (C : Addr) : Sp := fun vs H Q _ => ∃ (l : Addr) (us : List V) (k : Bool) (cs : List Ci), vs = [.str (kindS k), .ref l] ∧ SqL K H l us ∧ CisAt C H us cs ∧ cs ≠ [] ∧ cs.length ≤ 1000 ∧ (∀ c ∈ cs, c.norm) ∧ (∀ c ∈ cs, c.size ≤ 60) ∧ (mkC k cs).size ≤ 60 ∧ (mkC k cs).depth ≤ 20 ∧
  ∀ b v1 v2 H', H b = none → Ex H H' → H' b = some (.lst [v1, v2]) → CiAt C H' v1 (mkC k cs) → CiAt C H' v2 (mkC k cs) → Q (.ref b) H'
section
variable {P : Program} {w : World} {K : PySem.W.Frag} {mg : Str → Option Value} {base : Heap} {AA : Adr}
theorem pool_k (k : Bool) : decide (V.str (kindS k) = V.str (Str.ofString "pool")) = k := (show ∀ k : Bool, decide (V.str (kindS k) = V.str (Str.ofString "pool")) = k by decide +kernel) k
end
end Eyes

set_option Elab.async false
set_option linter.all false
set_option maxRecDepth 100000
set_option maxHeartbeats 4000000
namespace Eyes
open PySem PySem.Spec PyProof.Rows L2 Evl TL
def spSix (K : PySem.W.Frag) (C CE : Addr) (k : Bool) : Sp := fun vs H Q E => ∃ (l : Addr) (us : List V), vs = [.ref l] ∧ SqL K H l us ∧ 1 ≤ us.length ∧ us.length ≤ 6 ∧ spMany K C CE k us H Q E
theorem six {us : List V} (h1 : 1 ≤ us.length) (h6 : us.length ≤ 6) : (∃ v0, us = [v0]) ∨ (∃ v0 v1, us = [v0, v1]) ∨ (∃ v0 v1 v2, us = [v0, v1, v2]) ∨ (∃ v0 v1 v2 v3, us = [v0, v1, v2, v3]) ∨ (∃ v0 v1 v2 v3 v4, us = [v0, v1, v2, v3, v4]) ∨ ∃ v0 v1 v2 v3 v4 v5, us = [v0, v1, v2, v3, v4, v5] := by
  match us, h1, h6 with
  | [a], _, _ => exact .inl ⟨_, rfl⟩
  | [a, b], _, _ => exact .inr (.inl ⟨_, _, rfl⟩)
  | [a, b, c], _, _ => exact .inr (.inr (.inl ⟨_, _, _, rfl⟩))
  | [a, b, c, d], _, _ => exact .inr (.inr (.inr (.inl ⟨_, _, _, _, rfl⟩)))
  | [a, b, c, d, e], _, _ => exact .inr (.inr (.inr (.inr (.inl ⟨_, _, _, _, _, rfl⟩))))
  | [a, b, c, d, e, f], _, _ => exact .inr (.inr (.inr (.inr (.inr ⟨_, _, _, _, _, _, rfl⟩))))
theorem iteL {n : Nat} {j : Int} {A B : Prop} (e : (n : Int) ≠ j) (h : B) : if decide (V.int (n : Int) = V.int j) = true then A else B := by
  rw [if_neg (fun z => e (V.int.inj (of_decide_eq_true z)))]
  exact h
theorem iteM {n : Nat} {j : Int} {A B : Prop} (e : (n : Int) = j) (h : A) : if decide (V.int (n : Int) = V.int j) = true then A else B := by
  rw [if_pos (decide_eq_true (by rw [e]))]
  exact h
section
variable {P : Program} {w : World} {K : PySem.W.Frag} {mg : Str → Option Value} {base : Heap} {AA : Adr}
end
end Eyes

set_option Elab.async false
set_option linter.all false
set_option maxRecDepth 100000
set_option maxHeartbeats 4000000
namespace Eyes
open PySem PySem.Spec PyProof.Rows L2 Evl TL
def spAlike (C : Addr) : Sp := fun vs H Q _ => ∃ (v nd : V) (c : Ci), vs = [v, nd] ∧ CiAt C H v c ∧ Rep H nd c.data ∧ c.fine ∧ c.depth ≤ 20 ∧ ∀ H', Ex H H' → Q (.bl true) H'
theorem ix_lt {n j : Nat} {z : Int} (e : z = (j : Int)) (h : j < n) : ixN n z = some j := by
  subst e
  unfold ixN
  rw [if_pos (Int.natCast_nonneg j), if_pos (by omega)]
  rfl
theorem wid_strs {α : Type} (f : α → Str) : ∀ xs : List α, widAll (xs.map fun x => PyData.str (f x)) = 0
  | [] => rfl
  | x :: r => by
    show max 0 (widAll (r.map fun x => PyData.str (f x))) = 0
    rw [wid_strs f r]
    rfl
theorem depth_strs {α : Type} (f : α → Str) : ∀ xs : List α, PyData.depthAll (xs.map fun x => PyData.str (f x)) ≤ 1
  | [] => Nat.zero_le _
  | x :: r => by
    have := depth_strs f r
    simp only [List.map_cons, PyData.depthAll, PyData.depth]
    omega
theorem told_dep {c : Ci} {ys : List Str} : (told c ys).depth < 12 := by
  have h1 := depth_strs (fun x => x) ys
  have h2 := depth_strs (fun d : Ci => d.str) c.parts
  have h3 := depth_strs (fun d : Ci => d.kind) c.parts
  unfold told
  simp only [PyData.depth, PyData.depthAll]
  have h1 : PyData.depthAll (ys.map PyData.str) ≤ 1 := h1
  omega
theorem told_wid {c : Ci} {ys : List Str} (h : c.fine) (hy : IsEyes c ys) : wid (told c ys) ≤ 90000 := by
  have h1 : widAll (ys.map PyData.str) = 0 := wid_strs (fun x => x) ys
  have h2 := wid_strs (fun d : Ci => d.str) c.parts
  have h3 := wid_strs (fun d : Ci => d.kind) c.parts
  have h4 := hy.len
  have h5 := parts_len h
  have h6 := h.2
  unfold told
  simp only [wid, widAll, List.length_cons, List.length_nil, List.length_map]
  omega
theorem told_sm {C : Addr} {H : Hp} {x y : V} {c : Ci} {ys zs : List Str} (hf : c.fine) (h1 : IsEyes c ys) (h2 : IsEyes c zs) (hx : Rep H x (told c ys)) (hy : Rep H y (told c zs)) : Sm C H 12 x y := by
  rw [eyes_one h2 h1] at hy
  exact Rep.sm 12 hx hy told_dep (told_wid hf h1)
theorem strs_sm {C : Addr} {H : Hp} {a b : Addr} {xs : List Str} (hl : xs.length ≤ 90000) (ha : H a = some (.lst (xs.map V.str))) (hb : H b = some (.lst (xs.map V.str))) : Sm C H 12 (.ref a) (.ref b) := by
  refine .lst ha hb rfl (by rw [List.length_map]; exact hl) fun i u v e1 e2 => ?_
  rw [e1] at e2
  cases e2
  rw [List.getElem?_map] at e1
  obtain ⟨y, _, rfl⟩ := Option.map_eq_some_iff.mp e1
  exact .sc (.inr (.inr (.inr ⟨_, rfl⟩)))
section
variable {P : Program} {w : World} {K : PySem.W.Frag} {mg : Str → Option Value} {base : Heap} {AA : Adr}
end
end Eyes

set_option Elab.async false
set_option linter.all false
set_option maxRecDepth 100000
set_option maxHeartbeats 4000000
namespace Eyes
open PySem PySem.Spec PyProof.Rows L2 Evl TL
/-! ### parts of the heap -/
def cutH (G : Hp) : Hp := fun a => match G a with
  | some (.own x) => match G x with
    | some (.ins C dx fs) => if dx = a then some (.own x) else none
    | _ => none
  | some (.dT _) => none
  | some (.frz _ _) => none
  | some (.tbl _) => none
  | o => o
theorem cut_ins {G : Hp} {a C dx : Addr} {fs : List (Str × V)} (h : G a = some (.ins C dx fs)) : cutH G a = some (.ins C dx fs) := by
  unfold cutH
  rw [h]
theorem cut_lst {G : Hp} {a : Addr} {xs : List V} (h : G a = some (.lst xs)) : cutH G a = some (.lst xs) := by
  unfold cutH
  rw [h]
theorem cut_tup {G : Hp} {a : Addr} {xs : List V} (h : G a = some (.tup xs)) : cutH G a = some (.tup xs) := by
  unfold cutH
  rw [h]
theorem cut_own {G : Hp} {a x C : Addr} {fs : List (Str × V)} (h : G a = some (.own x)) (h2 : G x = some (.ins C a fs)) : cutH G a = some (.own x) := by
  unfold cutH
  simp only [h, h2, if_pos]
theorem cut_sub {G : Hp} : Ex (cutH G) G := fun a o h => by
  unfold cutH at h
  split at h
  · rename_i x e
    split at h
    · split at h
      · cases h
        exact e
      · cases h
    · cases h
  · cases h
  · cases h
  · cases h
  · exact h
theorem cut_cl {G : Hp} (o : Own1 G) : Cl (cutH G) := by
  refine ⟨fun a C dx fs h => ?_, fun a b h => ?_, fun a kvs h => ?_, fun a ob u h => ?_, fun a ps h => ?_⟩
  · have h1 := cut_sub _ _ h
    exact cut_own (o _ _ _ _ h1) h1
  · have h1 := cut_sub _ _ h
    unfold cutH at h
    rw [h1] at h
    simp only at h
    split at h
    · rename_i C dx fs e
      split at h
      · rename_i e2
        subst e2
        exact ⟨C, fs, cut_ins e⟩
      · cases h
    · cases h
  · have h1 := cut_sub _ _ h
    unfold cutH at h
    rw [h1] at h
    cases h
  · have h1 := cut_sub _ _ h
    unfold cutH at h
    rw [h1] at h
    cases h
  · have h1 := cut_sub _ _ h
    unfold cutH at h
    rw [h1] at h
    cases h
theorem ex_cut {G G' : Hp} (c : Cl G) (e : Ex G G') : Ex G (cutH G') := fun a o h => by
  have h1 := e a o h
  cases o with
  | lst xs => exact cut_lst h1
  | tup xs => exact cut_tup h1
  | ins C dx fs => exact cut_ins h1
  | own x =>
    obtain ⟨C, fs, hi⟩ := c.ins _ _ h
    exact cut_own h1 (e _ _ hi)
  | dT kvs => exact absurd h (c.dT a kvs)
  | frz ob u => exact absurd h (c.frz a ob u)
  | dK kvs => unfold cutH; rw [h1]
  | set S n => unfold cutH; rw [h1]
  | xd fs => unfold cutH; rw [h1]
  | rng lo hi => unfold cutH; rw [h1]
  | tbl ps => exact absurd h (c.tbl a ps)
  | met f y => unfold cutH; rw [h1]
  | ext φ => unfold cutH; rw [h1]
theorem cut_none {G : Hp} {a : Addr} (h : G a = none) : cutH G a = none := by
  unfold cutH
  rw [h]
mutual
theorem CiAt.mono2 {C : Addr} {H H' : Hp} (e1 : ∀ a C dx fs, H a = some (.ins C dx fs) → H' a = some (.ins C dx fs)) (e2 : ∀ a xs, H a = some (.lst xs) → H' a = some (.lst xs)) : ∀ {v : V} {c : Ci}, CiAt C H v c → CiAt C H' v c
  | _, _, .mk h0 h1 h2 h3 => .mk h0 (e1 _ _ _ _ h1) (e2 _ _ h2) (CisAt.mono2 e1 e2 h3)
theorem CisAt.mono2 {C : Addr} {H H' : Hp} (e1 : ∀ a C dx fs, H a = some (.ins C dx fs) → H' a = some (.ins C dx fs)) (e2 : ∀ a xs, H a = some (.lst xs) → H' a = some (.lst xs)) : ∀ {vs : List V} {cs : List Ci}, CisAt C H vs cs → CisAt C H' vs cs
  | _, _, .nil => .nil
  | _, _, .cons h r => .cons (CiAt.mono2 e1 e2 h) (CisAt.mono2 e1 e2 r)
end
theorem CiAt.cut {C : Addr} {G : Hp} {v : V} {c : Ci} (h : CiAt C G v c) : CiAt C (cutH G) v c := h.mono2 (fun _ _ _ _ => cut_ins) fun _ _ => cut_lst
theorem fr_use {G0 G' H : Hp} (e : Ex G0 H) (c : Cl G0) (e1 : Ex G0 G') (u : ∀ a o, H a = some o → G0 a = none → G' a = none) (o1 : Own1 G') :
    Ex G0 (cutH G') ∧ Cl (cutH G') ∧ Ex (cutH G') (mrg G0 G' H) ∧ Ex H (mrg G0 G' H) ∧ ∀ a o, H a = some o → G0 a = none → cutH G' a = none := by
  refine ⟨ex_cut c e1, cut_cl o1, cut_sub.trans (mrg_ex u), fun a o h => ?_, fun a o h g => cut_none (u a o h g)⟩
  cases g : G0 a with
  | some o2 =>
    rw [mrg_in g]
    have := e a o2 g
    rw [h] at this
    cases this
    exact e1 a _ g
  | none => exact mrg_out g h
def addT (G H : Hp) : Hp := fun a => match G a with
  | some o => some o
  | none => match H a with
    | some (.tup xs) => some (.tup xs)
    | _ => none
theorem addT_ex {G H : Hp} : Ex G (addT G H) := fun a o h => by
  unfold addT
  rw [h]
theorem addT_cases {G H : Hp} {a : Addr} {o : HO} (h : addT G H a = some o) : G a = some o ∨ G a = none ∧ ∃ xs, o = .tup xs ∧ H a = some (.tup xs) := by
  unfold addT at h
  cases g : G a with
  | some o2 =>
    rw [g] at h
    exact .inl h
  | none =>
    rw [g] at h
    refine .inr ⟨rfl, ?_⟩
    simp only at h
    split at h
    · rename_i xs e
      cases h
      exact ⟨xs, rfl, e⟩
    · cases h
theorem addT_le {G H : Hp} (e : Ex G H) : Ex (addT G H) H := fun a o h => by
  rcases addT_cases h with h2 | ⟨_, xs, rfl, h2⟩
  · exact e a o h2
  · exact h2
theorem addT_cl {G H : Hp} (c : Cl G) : Cl (addT G H) := by
  refine ⟨fun a C dx fs h => ?_, fun a b h => ?_, fun a kvs h => ?_, fun a ob u h => ?_, fun a ps h => ?_⟩
  · rcases addT_cases h with h | ⟨_, xs, z, h⟩
    · exact addT_ex _ _ (c.own _ _ _ _ h)
    · cases z
  · rcases addT_cases h with h | ⟨_, xs, z, h⟩
    · obtain ⟨C, fs, h2⟩ := c.ins _ _ h
      exact ⟨C, fs, addT_ex _ _ h2⟩
    · cases z
  · rcases addT_cases h with h | ⟨_, xs, z, h⟩
    · exact c.dT _ _ h
    · cases z
  · rcases addT_cases h with h | ⟨_, xs, z, h⟩
    · exact c.frz _ _ _ h
    · cases z
  · rcases addT_cases h with h | ⟨_, xs, z, h⟩
    · exact c.tbl _ _ h
    · cases z
theorem addT_none {G H : Hp} {a : Addr} {xs : List V} (g : G a = none) (h : H a = some (.lst xs)) : addT G H a = none := by
  unfold addT
  rw [g, h]
theorem addT_fresh {G H : Hp} {a : Addr} (g : G a = none) (h : H a = none) : addT G H a = none := by
  unfold addT
  rw [g, h]
theorem addT_tup {G H : Hp} (e : Ex G H) : ∀ a xs, H a = some (.tup xs) → addT G H a = some (.tup xs) := fun a xs h => by
  unfold addT
  cases g : G a with
  | some o =>
    have := e a o g
    rw [h] at this
    cases this
    rfl
  | none => simp only [h]
theorem Rep.addT {G H : Hp} {v : V} {c : Ci} (e : Ex G H) (h : Rep H v c.data) : Rep (addT G H) v c.data := Rep.tups (addT_tup e) h
theorem At.addT {b : Addr} {G H : Hp} (h : At b G H) : At b (addT G H) H := by
  obtain ⟨c, ns, i, r, m, n, B⟩ := h
  exact ⟨c, ns, i, r, m, n, addT_none B.nb B.at_, addT_none B.nc B.cells, addT_le B.ex, B.at_, B.cells, B.ne, B.i0, B.r0, B.m0, B.m1⟩
theorem At.more {b : Addr} {G H H' : Hp} (h : At b G H) (e : Ex H H') : ∃ G', At b G' H' ∧ Ex G G' ∧ ∀ a o, H' a = some o → H a = none ∨ (∃ o2, G a = some o2) → G' a = some o := by
  obtain ⟨c, ns, i, r, m, n, B⟩ := h
  refine ⟨fun a => if a = b ∨ a = c then none else H' a, ⟨c, ns, i, r, m, n, if_pos (.inl rfl), if_pos (.inr rfl), fun a u z => ?_, e _ _ B.at_, e _ _ B.cells, B.ne, B.i0, B.r0, B.m0, B.m1⟩, fun a u z => ?_, fun a o z g => ?_⟩
  · by_cases hc : a = b ∨ a = c
    · have z : (if a = b ∨ a = c then none else H' a) = some u := z
      rw [if_pos hc] at z
      cases z
    · have z : (if a = b ∨ a = c then none else H' a) = some u := z
      rw [if_neg hc] at z
      exact z
  · show (if a = b ∨ a = c then none else H' a) = some u
    rw [if_neg ?_]
    · exact e _ _ (B.ex _ _ z)
    · rintro (rfl | rfl)
      · rw [B.nb] at z
        cases z
      · rw [B.nc] at z
        cases z
  · show (if a = b ∨ a = c then none else H' a) = some o
    rw [if_neg ?_]
    · exact z
    · rintro (rfl | rfl)
      · rcases g with g | ⟨o2, g⟩
        · rw [B.at_] at g
          cases g
        · rw [B.nb] at g
          cases g
      · rcases g with g | ⟨o2, g⟩
        · rw [B.cells] at g
          cases g
        · rw [B.nc] at g
          cases g
end Eyes

set_option Elab.async false
set_option linter.all false
set_option maxRecDepth 100000
set_option maxHeartbeats 4000000
namespace Eyes
open PySem PySem.Spec PyProof.Rows L2 Evl TL
structure Cst (C b ln lm : Addr) (G0 G H : Hp) (us ws : List V) (cs : List Ci) : Prop where
  at_ : At b G H
  e : Ex G0 G
  cl : Cl G0
  n0 : G0 ln = none
  m0 : G0 lm = none
  ne : ln ≠ lm
  hn : G ln = some (.lst us)
  hm : G lm = some (.lst ws)
  rn : Reps G0 us (datas cs)
  rc : CisAt C G0 ws cs
  ok : ∀ c ∈ cs, c.norm ∧ c.size ≤ 60 ∧ c.depth ≤ 20
  pos : 0 < cs.length
  few : cs.length ≤ 900
theorem Cst.with {C b ln lm : Addr} {G0 G H H' : Hp} {us ws : List V} {cs : List Ci} (S : Cst C b ln lm G0 G H us ws cs) (h : At b G H') : Cst C b ln lm G0 G H' us ws cs :=
  ⟨h, S.e, S.cl, S.n0, S.m0, S.ne, S.hn, S.hm, S.rn, S.rc, S.ok, S.pos, S.few⟩
def spDeed (C : Addr) : Sp := fun vs H Q _ => ∃ (b ln lm : Addr) (G0 G : Hp) (us ws : List V) (cs : List Ci), vs = [.ref b, .ref ln, .ref lm] ∧ Cst C b ln lm G0 G H us ws cs ∧ cs.length ≤ 800 ∧
  ∀ (G0' G' H' : Hp) (us' ws' : List V) (cs' : List Ci), Cst C b ln lm G0' G' H' us' ws' cs' → cs'.length ≤ cs.length + 1 → (∀ a o, G a = some o → a ≠ ln → a ≠ lm → G' a = some o) → Q (.bl true) H'
def selV (us : List V) (ks : List Nat) : List V := ks.map fun j => us.getD j .non
def selC (cs : List Ci) (ks : List Nat) : List Ci := ks.map fun j => cs.getD j (.eye "")
theorem getD_at {α : Type} {xs : List α} {j : Nat} {d : α} (h : j < xs.length) : xs[j]? = some (xs.getD j d) := by
  rw [List.getD_eq_getElem?_getD, List.getElem?_eq_getElem h]
  rfl
theorem Reps.sel {H : Hp} {us : List V} {cs : List Ci} (r : Reps H us (datas cs)) : ∀ {ks : List Nat}, (∀ j ∈ ks, j < cs.length) → Reps H (selV us ks) (datas (selC cs ks))
  | [], _ => .nil
  | j :: t, h => by
    have hj := h j List.mem_cons_self
    have hu : j < us.length := by rw [r.lengthC]; exact hj
    obtain ⟨c, hc, hr⟩ := r.getC (getD_at (d := V.non) hu)
    rw [getD_at (d := Ci.eye "") hj] at hc
    cases hc
    exact .cons hr (Reps.sel r fun i hi => h i (List.mem_cons_of_mem _ hi))
theorem CisAt.sel {C : Addr} {H : Hp} {us : List V} {cs : List Ci} (r : CisAt C H us cs) : ∀ {ks : List Nat}, (∀ j ∈ ks, j < cs.length) → CisAt C H (selV us ks) (selC cs ks)
  | [], _ => .nil
  | j :: t, h => by
    have hj := h j List.mem_cons_self
    have hu : j < us.length := by rw [r.length]; exact hj
    obtain ⟨c, hc, hr⟩ := r.get (getD_at (d := V.non) hu)
    rw [getD_at (d := Ci.eye "") hj] at hc
    cases hc
    exact .cons hr (CisAt.sel r fun i hi => h i (List.mem_cons_of_mem _ hi))
theorem selC_mem {cs : List Ci} {ks : List Nat} (h : ∀ j ∈ ks, j < cs.length) {c : Ci} (hc : c ∈ selC cs ks) : c ∈ cs := by
  obtain ⟨j, hj, rfl⟩ := List.mem_map.mp hc
  exact List.mem_of_getElem? (getD_at (h j hj))
theorem selV_len {us : List V} {ks : List Nat} : (selV us ks).length = ks.length := List.length_map _
theorem selC_len {cs : List Ci} {ks : List Nat} : (selC cs ks).length = ks.length := List.length_map _
theorem Cl.lst {G : Hp} {p : Addr} {xs : List V} (c : Cl G) (h : G p = none) : Cl (upd G p (.lst xs)) := by
  have old : ∀ {a : Addr} {o : HO}, (∀ ys, o ≠ .lst ys) → upd G p (.lst xs) a = some o → G a = some o := fun {a o} n z => by
    by_cases e : a = p
    · subst e
      rw [upd_same] at z
      cases z
      exact absurd rfl (n xs)
    · rw [upd_ne e] at z
      exact z
  refine ⟨fun a C dx fs z => ?_, fun a b z => ?_, fun a kvs z => ?_, fun a ob u z => ?_, fun a ps z => ?_⟩
  · exact Ex.new h _ _ (c.own _ _ _ _ (old (fun _ => nofun) z))
  · obtain ⟨C, fs, h2⟩ := c.ins _ _ (old (fun _ => nofun) z)
    exact ⟨C, fs, Ex.new h _ _ h2⟩
  · exact c.dT _ _ (old (fun _ => nofun) z)
  · exact c.frz _ _ _ (old (fun _ => nofun) z)
  · exact c.tbl _ _ (old (fun _ => nofun) z)
section
variable {P : Program} {w : World} {K : PySem.W.Frag} {mg : Str → Option Value} {base : Heap} {AA : Adr}
end
end Eyes

set_option Elab.async false
set_option linter.all false
set_option maxRecDepth 100000
set_option maxHeartbeats 4000000
namespace Eyes
open PySem PySem.Spec PyProof.Rows L2 Evl TL
def Err1 (AA : Adr) (cls : Value) (n f : Str) : Prop := (cls = .ref AA.InvalidName ∧ n = "InvalidName" ∧ f = "value") ∨ (cls = .ref AA.InvalidCircle ∧ n = "InvalidCircle" ∧ f = "at")
def Told1 (AA : Adr) (Q : VK) : XK := fun cls d H1 => ∃ (n f : Str) (dd : Addr) (v : V), Err1 AA cls n f ∧ d = some dd ∧ H1 dd = some (.xd [(f, v)]) ∧ ∀ p1 p2 H', Ex H1 H' → H' p1 = some (.tup [v]) → H' p2 = some (.tup [.str n, .ref p1]) → Q (.ref p2) H'
def tTry (AA : Adr) : (XK → Hp → VK → Prop) → Hp → VK → Prop := fun tl H Q => ∃ (E1 : XK) (Q1 : VK), tl E1 H Q1 ∧ (∀ v H1, Q1 v H1 → ∀ p H', Ex H1 H' → H' p = some (.tup [.str "", v]) → Q (.ref p) H') ∧ ∀ cls d H1, E1 cls d H1 → Told1 AA Q cls d H1
def tWhy (AA : Adr) : (XK → Hp → VK → Prop) → Hp → VK → Prop := fun tl H Q => ∃ (E1 : XK) (Q1 : VK), tl E1 H Q1 ∧ (∀ v H1, Q1 v H1 → ∀ p1 p2 H', Ex H1 H' → H' p1 = some (.tup []) → H' p2 = some (.tup [.str "", .ref p1]) → Q (.ref p2) H') ∧ ∀ cls d H1, E1 cls d H1 → Told1 AA Q cls d H1
section
variable {P : Program} {w : World} {K : PySem.W.Frag} {mg : Str → Option Value} {base : Heap} {AA : Adr}
theorem ok_law_try (T : Txt K mg AA) : PrC P w K mg base "_law_try" 10 12 (tTry AA) := by
  refine prC_mk T.f_law_try sc_law_try (fun g cdg A outer s H f c' q tl Q hr C hc ht => ?_)
  refine ⟨_, pss_one (ps_tryAs rfl rfl sc_law_try.nd (fun W pn xe tk po => pss_one (ps_ret (pe_tup (pa_cons pe_str (pa_cons (pe_ask2 (CXg := C8.CX0) (Eg := C8.E0) (i := 0) C tk (hr.mono (by decide)) rfl (.inl rfl)) pa_nil))))) (.cons (j := 1) ⟨rfl, by decide, .inl T.e_InvalidName.gC⟩ rfl rfl (fun e oe cls d pn hz hd => pss_one (ps_ret (pe_tup (pa_cons pe_str (pa_cons (pe_tup (pa_cons (pe_xf T.e_InvalidName.xf T.a_InvalidName_value hz hd (pv 1)) pa_nil)) pa_nil)))))
        (.cons (j := 1) ⟨rfl, by decide, .inl T.e_InvalidNumber.gC⟩ rfl rfl (fun e oe cls d pn hz hd => pss_one (ps_ret (pe_tup (pa_cons pe_str (pa_cons (pe_tup (pa_cons (pe_xf T.e_InvalidNumber.xf T.a_InvalidNumber_value hz hd (pv 1)) pa_nil)) pa_nil)))))
        (.cons (j := 1) ⟨rfl, by decide, .inl T.e_InvalidText.gC⟩ rfl rfl (fun e oe cls d pn hz hd => pss_one (ps_ret (pe_tup (pa_cons pe_str (pa_cons (pe_tup (pa_cons (pe_xf T.e_InvalidText.xf T.a_InvalidText_at hz hd (pv 1)) pa_nil)) pa_nil)))))
        (.cons (j := 1) ⟨rfl, by decide, .inl T.e_InvalidCircle.gC⟩ rfl rfl (fun e oe cls d pn hz hd => pss_one (ps_ret (pe_tup (pa_cons pe_str (pa_cons (pe_tup (pa_cons (pe_xf T.e_InvalidCircle.xf T.a_InvalidCircle_at hz hd (pv 1)) pa_nil)) pa_nil)))))
        (.cons (j := 1) ⟨rfl, by decide, .inl T.e_InvalidTie.gC⟩ rfl rfl (fun e oe cls d pn hz hd => pss_one (ps_ret (pe_tup (pa_cons pe_str (pa_cons (pe_tup (pa_cons (pe_xf T.e_InvalidTie.xf T.a_InvalidTie_at hz hd (pv 1)) pa_nil)) pa_nil)))))
        (.cons (j := 1) ⟨rfl, by decide, .inl T.e_InvalidParting.gC⟩ rfl rfl (fun e oe cls d pn hz hd => pss_one (ps_ret (pe_tup (pa_cons pe_str (pa_cons (pe_tup (pa_cons (pe_xf T.e_InvalidParting.xf T.a_InvalidParting_value hz hd (pv 1)) pa_nil)) pa_nil)))))
        (.cons (j := 1) ⟨rfl, by decide, .inl T.e_InvalidCase.gC⟩ rfl rfl (fun e oe cls d pn hz hd => pss_one (ps_ret (pe_tup (pa_cons pe_str (pa_cons (pe_tup (pa_cons (pe_xf T.e_InvalidCase.xf T.a_InvalidCase_value hz hd (pv 1)) pa_nil)) pa_nil)))))
        (.cons (j := 1) ⟨rfl, by decide, .inl T.e_TooMany.gC⟩ rfl rfl (fun e oe cls d pn hz hd => pss_one (ps_ret (pe_tup (pa_cons pe_str (pa_cons (pe_tup (pa_cons (pe_xf T.e_TooMany.xf T.a_TooMany_what hz hd (pv 1)) (pa_cons (pe_xf T.e_TooMany.xf T.a_TooMany_most hz hd (pv 1)) pa_nil))) pa_nil)))))
        HdsAs.rest))))))))), ?_⟩
  obtain ⟨E1, Q1, ht, hQ, hE⟩ := ht
  refine ⟨rfl, hc, _, _, ht, fun v H1 h => ⟨by show 2 ≤ sizeLine; decide, fun p hp => hQ v H1 h p _ (Ex.new hp) upd_same⟩, fun cls d H1 h => ?_⟩
  obtain ⟨n, f, dd, v, he, rfl, hx, h⟩ := hE _ _ _ h
  rcases he with ⟨rfl, rfl, rfl⟩ | ⟨rfl, rfl, rfl⟩
  · refine ⟨_, T.x_InvalidName_InvalidName, fun _ e he => ?_, fun z => (nomatch z)⟩
    exact ⟨_, rfl, rfl, rfl, dd, _, v, rfl, hx, rfl, by show 1 ≤ sizeLine; decide, fun p1 hp1 => ⟨by show 2 ≤ sizeLine; decide, fun p2 hp2 => h p1 p2 _ ((Ex.new hp1).trans (Ex.new hp2)) (Ex.new hp2 _ _ upd_same) upd_same⟩⟩
  · refine ⟨_, T.x_InvalidCircle_InvalidName, fun z => (nomatch z), fun _ => ⟨_, T.x_InvalidCircle_InvalidNumber, fun z => (nomatch z), fun _ => ⟨_, T.x_InvalidCircle_InvalidText, fun z => (nomatch z), fun _ => ⟨_, T.x_InvalidCircle_InvalidCircle, fun _ e he => ?_, fun z => (nomatch z)⟩⟩⟩⟩
    exact ⟨_, rfl, rfl, rfl, dd, _, v, rfl, hx, rfl, by show 1 ≤ sizeLine; decide, fun p1 hp1 => ⟨by show 2 ≤ sizeLine; decide, fun p2 hp2 => h p1 p2 _ ((Ex.new hp1).trans (Ex.new hp2)) (Ex.new hp2 _ _ upd_same) upd_same⟩⟩
end
end Eyes

set_option Elab.async false
set_option linter.all false
set_option maxRecDepth 100000
set_option maxHeartbeats 4000000
namespace Eyes
open PySem PySem.Spec PyProof.Rows L2 Evl TL
theorem dp_signs {K : PySem.W.Frag} {H : Hp} : ∀ l : List Nat, DpAll K H (l.map fun c => V.str ⟨#[c]⟩) (l.map fun c => .str ⟨#[c]⟩)
  | [] => .nil
  | _ :: l => .cons (.str _) (dp_signs l)
theorem shaped_signs {l : List Nat} (h : ∀ c ∈ l, c < 1114112) : SeqAt.shaped (.list (l.map fun c => .str ⟨#[c]⟩)) = true := by
  have h1 : PyData.canLay0 (.list (l.map fun c => .str ⟨#[c]⟩)) = true := by
    show PyData.canLayAll0 _ = true
    induction l with
    | nil => rfl
    | cons c l ih =>
      show (PyData.canLay0 (.str ⟨#[c]⟩) && PyData.canLayAll0 (l.map fun c => .str ⟨#[c]⟩)) = true
      rw [ih fun d hd => h d (List.mem_cons_of_mem _ hd), Bool.and_true]
      have hc := h c List.mem_cons_self
      simp [PyData.canLay0, PyData.strOk, hc]
  have h2 : PyData.depth (.list (l.map fun c => .str ⟨#[c]⟩)) ≤ 64 := by
    have : PyData.depthAll (l.map fun c => PyData.str ⟨#[c]⟩) = 0 := by
      clear h h1
      induction l with
      | nil => rfl
      | cons c l ih =>
        show max (PyData.depth (.str ⟨#[c]⟩)) _ = 0
        rw [ih]
        rfl
    show PyData.depthAll _ + 1 ≤ 64
    rw [this]
    decide
  unfold SeqAt.shaped
  rw [h1, decide_eq_true h2]
  rfl

theorem joinL_mem {S : List Nat} {x : Nat} : ∀ {l : List (List Nat)}, x ∈ joinL S l → x ∈ S ∨ ∃ t ∈ l, x ∈ t
  | [], h => by cases h
  | [p], h => .inr ⟨p, List.mem_cons_self, h⟩
  | p :: q :: r, h => by
    have h : x ∈ p ++ (S ++ joinL S (q :: r)) := h
    rcases List.mem_append.mp h with h | h
    · exact .inr ⟨p, List.mem_cons_self, h⟩
    · rcases List.mem_append.mp h with h | h
      · exact .inl h
      · rcases joinL_mem h with h | ⟨t, ht, h⟩
        · exact .inl h
        · exact .inr ⟨t, List.mem_cons_of_mem _ ht, h⟩
mutual
theorem Ci.tx_low : ∀ c : Ci, c.ok → ∀ x ∈ c.tx, x < 128
  | .eye n, h, x, hx => by
    have := h.2.2 x hx
    omega
  | .node k ps, h, x, hx => by
    rcases joinL_mem (show x ∈ joinL (tl (sepS k)) (inns ps) from hx) with h1 | ⟨t, ht, h1⟩
    · exact (show ∀ k : Bool, ∀ x ∈ tl (sepS k), x < 128 by decide +kernel) k x h1
    · exact inns_low ps h.2 t ht x h1
theorem inns_low : ∀ ps : List Ci, oks ps → ∀ t ∈ inns ps, ∀ x ∈ t, x < 128
  | [], _, t, ht, _, _ => by cases ht
  | c :: r, h, t, ht, x, hx => by
    rcases List.mem_cons.mp (show t ∈ wrapL c c.tx :: inns r from ht) with rfl | ht
    · cases c with
      | eye n => exact Ci.tx_low (.eye n) h.1 x hx
      | node k ps =>
        have hx : x ∈ 40 :: ((Ci.node k ps).tx ++ [41]) := hx
        rcases List.mem_cons.mp hx with rfl | hx
        · decide
        · rcases List.mem_append.mp hx with hx | hx
          · exact Ci.tx_low (.node k ps) h.1 x hx
          · rw [List.mem_singleton.mp hx]
            decide
    · exact inns_low r h.2 t ht x hx
end
theorem str_okS {c : Ci} (h : c.fine) : okS c.str := ⟨by have := fine_len h; omega, fun x hx => Ci.tx_low c h.1 x hx⟩
def Odd (K : PySem.W.Frag) (C : Addr) (H : Hp) (v : V) : Prop := ∃ k, Knd K H v k ∧ Sm C H 5 v v ∧ (NoCi K C H v ∨ ∃ c, CiAt C H v c)
theorem Odd.mono {K : PySem.W.Frag} {C : Addr} {H H' : Hp} {v : V} (h : Odd K C H v) (e : Ex H H') : Odd K C H' v := by
  obtain ⟨k, h1, h2, h3⟩ := h
  exact ⟨k, h1.mono e, h2.mono e, h3.imp (fun z => z.mono e) fun ⟨c, z⟩ => ⟨c, z.mono e⟩⟩
section
variable {P : Program} {w : World} {K : PySem.W.Frag} {mg : Str → Option Value} {base : Heap} {AA : Adr}
theorem Odd.rep (T : Txt K mg AA) {H : Hp} {v : V} {d : PyData} (h : Rep H v d) (hd : d.depth < 5) (hw : wid d ≤ 90000) (hz : ∀ z, v = .str z → okS z) : Odd K AA.Circle H v ∧ NoCi K AA.Circle H v := by
  have sm : Sm AA.Circle H 5 v v := Rep.sm 5 h h hd hw
  cases h with
  | non => exact ⟨⟨.o, ⟨_, .base .non, kit_ty (a := "NoneType") (r := false) (by decide +kernel), kit_ty (a := "NoneType") (r := false) (by decide +kernel), kit_ty (a := "NoneType") (r := false) (by decide +kernel)⟩, sm, .inl ⟨_, .base .non, T.kc_NoneType⟩⟩, ⟨_, .base .non, T.kc_NoneType⟩⟩
  | bl b => exact ⟨⟨.b b, rfl, sm, .inl ⟨_, .base (.bl b), T.kc_bool⟩⟩, ⟨_, .base (.bl b), T.kc_bool⟩⟩
  | int i => exact ⟨⟨.i i, rfl, sm, .inl ⟨_, .base (.int i), T.kc_int⟩⟩, ⟨_, .base (.int i), T.kc_int⟩⟩
  | str z => exact ⟨⟨.s z, ⟨rfl, hz z rfl⟩, sm, .inl ⟨_, .base (.str z), T.kc_str⟩⟩, ⟨_, .base (.str z), T.kc_str⟩⟩
  | lst h1 _ => exact ⟨⟨.o, ⟨_, .base (.lst h1), kit_ty (a := "list") (r := false) (by decide +kernel), kit_ty (a := "list") (r := false) (by decide +kernel), kit_ty (a := "list") (r := false) (by decide +kernel)⟩, sm, .inl ⟨_, .base (.lst h1), T.kc_list⟩⟩, ⟨_, .base (.lst h1), T.kc_list⟩⟩
  | tup h1 _ => exact ⟨⟨.o, ⟨_, .base (.tup h1), kit_ty (a := "tuple") (r := false) (by decide +kernel), kit_ty (a := "tuple") (r := false) (by decide +kernel), kit_ty (a := "tuple") (r := false) (by decide +kernel)⟩, sm, .inl ⟨_, .base (.tup h1), T.kc_tuple⟩⟩, ⟨_, .base (.tup h1), T.kc_tuple⟩⟩
theorem one_sm {C : Addr} {H : Hp} {n : Nat} {x : V} (h : Sm C H n x x) (i : Nat) (u v : V) (e1 : [x][i]? = some u) (e2 : [x][i]? = some v) : Sm C H n u v := by
  rw [e1] at e2
  cases e2
  rw [List.mem_singleton.mp (List.mem_of_getElem? e1)]
  exact h
theorem Odd.lst1 (T : Txt K mg AA) {H : Hp} {a : Addr} {x : V} {c : Ci} (h1 : H a = some (.lst [x])) (hx : CiAt AA.Circle H x c) : Odd K AA.Circle H (.ref a) ∧ NoCi K AA.Circle H (.ref a) :=
  ⟨⟨.o, ⟨_, .base (.lst h1), kit_ty (a := "list") (r := false) (by decide +kernel), kit_ty (a := "list") (r := false) (by decide +kernel), kit_ty (a := "list") (r := false) (by decide +kernel)⟩, .lst h1 h1 rfl (by show 1 ≤ 90000; decide) (one_sm (.ci hx hx rfl)), .inl ⟨_, .base (.lst h1), T.kc_list⟩⟩, ⟨_, .base (.lst h1), T.kc_list⟩⟩
theorem Odd.tup1 (T : Txt K mg AA) {H : Hp} {a : Addr} {x : V} {c : Ci} (h1 : H a = some (.tup [x])) (hx : CiAt AA.Circle H x c) : Odd K AA.Circle H (.ref a) ∧ NoCi K AA.Circle H (.ref a) :=
  ⟨⟨.o, ⟨_, .base (.tup h1), kit_ty (a := "tuple") (r := false) (by decide +kernel), kit_ty (a := "tuple") (r := false) (by decide +kernel), kit_ty (a := "tuple") (r := false) (by decide +kernel)⟩, .tup h1 h1 rfl (by show 1 ≤ 90000; decide) (one_sm (.ci hx hx rfl)), .inl ⟨_, .base (.tup h1), T.kc_tuple⟩⟩, ⟨_, .base (.tup h1), T.kc_tuple⟩⟩
theorem Odd.ci (T : Txt K mg AA) {H : Hp} {x : V} {c : Ci} (hx : CiAt AA.Circle H x c) : Odd K AA.Circle H x := by
  obtain ⟨p, dx, l, vs, rfl, hp, _, _⟩ := hx.at_
  exact ⟨.o, ⟨_, .base (.ins hp T.c_Circle T.y_Circle.ty1 T.y_Circle.ty2 T.y_Circle.ty3 T.y_Circle.ty4), T.y_Circle.k_str, T.y_Circle.k_int, T.y_Circle.k_bool⟩, .ci hx hx rfl, .inr ⟨c, hx⟩⟩
theorem Odd.lit (T : Txt K mg AA) {H : Hp} {z : Str} (h : (decide (z.length ≤ 1000) && z.cps.toList.all fun c => decide (c < 128)) = true) : Odd K AA.Circle H (.str z) ∧ NoCi K AA.Circle H (.str z) := by
  obtain ⟨h1, h2⟩ := Bool.and_eq_true_iff.mp h
  exact Odd.rep T (.str z) (by simp only [PyData.depth]; decide) (by simp only [wid]; decide) fun y e => by
    cases e
    exact ⟨of_decide_eq_true h1, fun c hc => of_decide_eq_true (List.all_eq_true.mp h2 c hc)⟩
def spOdd (K : PySem.W.Frag) (C : Addr) : Sp := fun vs H Q _ => ∃ (b lm : Addr) (G : Hp) (ms : List V), vs = [.ref b, .ref lm] ∧ At b G H ∧ G lm = some (.lst ms) ∧ ms.length ≤ 20 ∧ (∀ x ∈ ms, Odd K C G x) ∧ ∀ v G' H', Ex G G' → At b G' H' → Odd K C G' v → (v ∈ ms ∨ NoCi K C G' v) → Q v H'
theorem ok_law_odd (T : Txt K mg AA) : Pr P w K mg base "_law_odd" s_law_odd p_law_odd 3 (spOdd K AA.Circle) := by
  refine pr_mk T.f_law_odd sc_law_odd (fun vs H Q E h => ?_) (fun f cdv A outer s H vs Q E hr h => ?_)
  · obtain ⟨b, lm, G, ms, rfl, _⟩ := h
    rfl
  · obtain ⟨b, lm, G, ms, rfl, hA, hm, h20, hms, q⟩ := h
    refine ⟨_, (pss_one (ps_ret (pcall (ok_law_of T) hr (pa_cons (pv 0) (pa_cons (pe_op op_cat (pe_lst (pa_cons pe_non (pa_cons pe_bl (pa_cons pe_bl (pa_cons pe_int (pa_cons (pe_un un_neg pe_int) (pa_cons pe_str (pa_cons pe_str (pa_cons pe_str (pa_cons (pe_lst pa_nil) (pa_cons (pe_tup pa_nil) (pa_cons (pe_lst (pa_cons pe_non pa_nil)) (pa_cons (pe_tup (pa_cons pe_str pa_nil)) (pa_cons (pe_tup (pa_cons pe_str (pa_cons pe_int (pa_cons pe_int pa_nil)))) (pa_cons pe_int (pa_cons pe_str (pa_cons (pe_lst (pa_cons pe_int pa_nil)) (pa_cons (pe_tup (pa_cons pe_int (pa_cons pe_int pa_nil))) pa_nil)))))))))))))))))) (pv 1)) pa_nil))))), ?_⟩
    refine ⟨_, rfl, 1, rfl, by show 0 ≤ sizeLine; decide, fun p1 n1 => ⟨by show 0 ≤ sizeLine; decide, fun p2 n2 => ⟨by show 1 ≤ sizeLine; decide, fun p3 n3 => ⟨by show 1 ≤ sizeLine; decide, fun p4 n4 => ⟨by show 3 ≤ sizeLine; decide, fun p5 n5 => ⟨by show 1 ≤ sizeLine; decide, fun p6 n6 => ⟨by show 2 ≤ sizeLine; decide, fun p7 n7 => ⟨by show 17 ≤ sizeLine; decide, fun p8 n8 => ?_⟩⟩⟩⟩⟩⟩⟩⟩
    have a1 := hA.new (o := .lst []) n1
    have x1 := Ex.new (o := .lst []) (hA.nh n1)
    have a2 := a1.new (o := .tup []) n2
    have x2 := Ex.new (o := .tup []) (a1.nh n2)
    have a3 := a2.new (o := .lst [.non]) n3
    have x3 := Ex.new (o := .lst [.non]) (a2.nh n3)
    have a4 := a3.new (o := .tup [.str "x"]) n4
    have x4 := Ex.new (o := .tup [.str "x"]) (a3.nh n4)
    have a5 := a4.new (o := .tup [.str "x", .int 1, .int 2]) n5
    have x5 := Ex.new (o := .tup [.str "x", .int 1, .int 2]) (a4.nh n5)
    have a6 := a5.new (o := .lst [.int 1]) n6
    have x6 := Ex.new (o := .lst [.int 1]) (a5.nh n6)
    have a7 := a6.new (o := .tup [.int 1, .int 2]) n7
    have x7 := Ex.new (o := .tup [.int 1, .int 2]) (a6.nh n7)
    have a8 := a7.new (o := .lst [.non, .bl true, .bl false, .int 7, .int (-1), .str "", .str "x", .str "A", .ref p1, .ref p2, .ref p3, .ref p4, .ref p5, .int 999999999, .str "x y", .ref p6, .ref p7]) n8
    have x8 := Ex.new (o := .lst [.non, .bl true, .bl false, .int 7, .int (-1), .str "", .str "x", .str "A", .ref p1, .ref p2, .ref p3, .ref p4, .ref p5, .int 999999999, .str "x y", .ref p6, .ref p7]) (a7.nh n8)
    have hm8 := a8.ex _ _ (x8 _ _ (x7 _ _ (x6 _ _ (x5 _ _ (x4 _ _ (x3 _ _ (x2 _ _ (x1 _ _ hm))))))))
    refine ⟨_, rfl, p8, lm, _, ms, rfl, rfl, upd_same, hm8, sz_of (by show 17 + ms.length ≤ 100000; omega), fun pr npr => ⟨b, .ref pr, _, _, rfl, a8.new npr, .inl ⟨pr, rfl, sq_of upd_same⟩, by rw [List.length_append]; show 0 < 17 + ms.length; omega, by rw [List.length_append]; show 17 + ms.length < 1073741824; omega, fun v H' hv hA' => ?_⟩⟩
    have x9 := Ex.new (o := HO.lst ([.non, .bl true, .bl false, .int 7, .int (-1), .str "", .str "x", .str "A", .ref p1, .ref p2, .ref p3, .ref p4, .ref p5, .int 999999999, .str "x y", .ref p6, .ref p7] ++ ms)) (a8.nh npr)
    have y8 := x8.trans x9
    have y7 := x7.trans y8
    have y6 := x6.trans y7
    have y5 := x5.trans y6
    have y4 := x4.trans y5
    have y3 := x3.trans y4
    have y2 := x2.trans y3
    have y1 := x1.trans y2
    refine (fun main : Odd K AA.Circle _ v ∧ (v ∈ ms ∨ NoCi K AA.Circle _ v) => q v _ H' y1 hA' main.1 main.2) ?_
    have both : ∀ {G9 : Hp} {v : V}, Odd K AA.Circle G9 v ∧ NoCi K AA.Circle G9 v → Odd K AA.Circle G9 v ∧ (v ∈ ms ∨ NoCi K AA.Circle G9 v) := fun z => ⟨z.1, .inr z.2⟩
    rcases List.mem_append.mp hv with hv | hv
    · simp only [List.mem_cons, List.not_mem_nil, or_false] at hv
      have no : ∀ {v : V}, (∀ z, v ≠ .str z) → ∀ z, v = .str z → okS z := fun h z e => absurd e (h z)
      rcases hv with rfl | rfl | rfl | rfl | rfl | rfl | rfl | rfl | rfl | rfl | rfl | rfl | rfl | rfl | rfl | rfl | rfl
      · exact both (Odd.rep T .non (by decide) (by decide) (no fun z => nofun))
      · exact both (Odd.rep T (.bl true) (by decide) (by decide) (no fun z => nofun))
      · exact both (Odd.rep T (.bl false) (by decide) (by decide) (no fun z => nofun))
      · exact both (Odd.rep T (.int 7) (by decide) (by decide) (no fun z => nofun))
      · exact both (Odd.rep T (.int (-1)) (by decide) (by decide) (no fun z => nofun))
      · exact both (Odd.lit T (by decide +kernel))
      · exact both (Odd.lit T (by decide +kernel))
      · exact both (Odd.lit T (by decide +kernel))
      · exact both (Odd.rep T (.lst (y2 _ _ upd_same) .nil) (by decide) (by decide) (no fun z => nofun))
      · exact both (Odd.rep T (.tup (y3 _ _ upd_same) .nil) (by decide) (by decide) (no fun z => nofun))
      · exact both (Odd.rep T (.lst (y4 _ _ upd_same) (.cons .non .nil)) (by decide) (by decide) (no fun z => nofun))
      · exact both (Odd.rep T (.tup (y5 _ _ upd_same) (.cons (.str _) .nil)) (by decide +kernel) (by decide +kernel) (no fun z => nofun))
      · exact both (Odd.rep T (.tup (y6 _ _ upd_same) (.cons (.str _) (.cons (.int _) (.cons (.int _) .nil)))) (by decide +kernel) (by decide +kernel) (no fun z => nofun))
      · exact both (Odd.rep T (.int _) (by decide) (by decide) (no fun z => nofun))
      · exact both (Odd.lit T (by decide +kernel))
      · exact both (Odd.rep T (.lst (y7 _ _ upd_same) (.cons (.int _) .nil)) (by decide) (by decide) (no fun z => nofun))
      · exact both (Odd.rep T (.tup (y8 _ _ upd_same) (.cons (.int _) (.cons (.int _) .nil))) (by decide) (by decide) (no fun z => nofun))
    · exact ⟨(hms v hv).mono y1, .inl hv⟩
end
end Eyes

set_option Elab.async false
set_option linter.all false
set_option maxRecDepth 100000
set_option maxHeartbeats 4000000
namespace Eyes
open PySem PySem.Spec PyProof.Rows L2 Evl TL
def ImgAt (C : Addr) (H : Hp) (d : Addr) (g : Str → Ci) : Prop := ∃ kvs : List (Key × V), H d = some (.dK kvs) ∧ ∀ n, nm n → (∃ v, valV kvs (.inr n) = some v ∧ CiAt C H v (g n)) ∨ (valV kvs (.inr n) = none ∧ g n = .eye n)
theorem ImgAt.mono {C : Addr} {H H' : Hp} {d : Addr} {g : Str → Ci} (h : ImgAt C H d g) (e : Ex H H') : ImgAt C H' d g := by
  obtain ⟨kvs, h1, h2⟩ := h
  refine ⟨kvs, e _ _ h1, fun n hn => ?_⟩
  rcases h2 n hn with ⟨v, h3, h4⟩ | h3
  · exact .inl ⟨v, h3, h4.mono e⟩
  · exact .inr h3
def Ends (AA : Adr) (r : Rs Ci) (H : Hp) (Q : VK) (E : XK) : Prop := (∀ c, r = .yes c → ∀ v H', Ex H H' → CiAt AA.Circle H' v c → Q v H') ∧
  ∀ z, r = .no z → ∀ d H', H d = none → Ex H H' → H' d = some (.xd [("most", .int z.2), ("what", .str z.1)]) → E (.ref AA.TooMany) (some d) H'
def spPut (AA : Adr) (n : Nat) : Sp := fun vs H Q E => ∃ (v : V) (d : Addr) (c : Ci) (g : Str → Ci), vs = [v, .ref d] ∧ Cl H ∧ CiAt AA.Circle H v c ∧ c.nice ∧ c.depth < n ∧ ImgAt AA.Circle H d g ∧ (∀ n, nm n → (g n).nice) ∧ Ends AA (putC g c) H Q E
section
variable {P : Program} {w : World} {K : PySem.W.Frag} {mg : Str → Option Value} {base : Heap} {AA : Adr}
def spMir (AA : Adr) (n : Nat) : Sp := fun vs H Q _ => ∃ (v : V) (c : Ci), vs = [v] ∧ Cl H ∧ CiAt AA.Circle H v c ∧ c.nice ∧ c.depth < n ∧ ∀ v' H', Ex H H' → CiAt AA.Circle H' v' (flip c) → Q v' H'
theorem flips_good {k : Bool} {ps : List Ci} (h : (Ci.node k ps).nice) : Good (!k) (ps.map flip) ∧ mkC (!k) (ps.map flip) = flip (.node k ps) := by
  have hm := flip_mk h.1
  have h2 := mapC_nice (f := true) Sw.id h
  have h2p : 2 ≤ ps.length := h.1.1
  refine ⟨⟨fun e => ?_, fun c hc => ?_, ?_, ?_, ?_⟩, hm⟩
  · have := congrArg List.length e
    rw [List.length_map, List.length_nil] at this
    omega
  · obtain ⟨d, hd, rfl⟩ := List.mem_map.mp hc
    exact (mapC_nice Sw.id (parts_nice h (show d ∈ (Ci.node k ps).parts from hd))).fine
  · rw [List.length_map]
    have : ps.length ≤ 60 := Nat.le_trans (sizes_len ps (norm_of h.1).2) h.2.1
    omega
  · rw [hm]
    exact h2.2.1
  · rw [hm]
    exact h2.2.2
end
end Eyes

set_option Elab.async false
set_option linter.all false
set_option maxRecDepth 100000
set_option maxHeartbeats 4000000
/-! Calls beside the bag: over all of the heap but the bag, cut to what stands by itself. -/
namespace Eyes
open PySem PySem.Spec PyProof.Rows L2 Evl TL
theorem FnOk.pre {P : Program} {w : World} {K : PySem.W.Frag} {mg : Str → Option Value} {base : Heap} {CX : CXT} {k : Nat} {f : Addr} {fd : FuncData} {ps : List Str} {sp sp' : Sp} (F : FnOk P w K mg base CX k f fd ps sp) (hl : ∀ vs H Q E, sp' vs H Q E → vs.length = ps.length)
    (h : ∀ vs H Q E, Own1 H → sp' vs H Q E → sp vs H Q E) : FnOk P w K mg base CX k f fd ps sp' := by
  refine ⟨hl, fun A outer s H args us vs Q E hr e0 hb hv h' => F.run A outer s H args us vs Q E hr e0 hb hv (h _ _ _ _ (fun a C dx fs g => ?_) h')⟩
  obtain ⟨z, _⟩ := e0.hok a _ g
  exact z
def spCutX (n : Nat) (sp : Sp) : Sp := fun vs H Q E => vs.length = n ∧ (Cl (cutH H) → sp vs (cutH H) (fun v G' => (∀ a o, H a = some o → cutH H a = none → G' a = none) → Own1 G' → Q v (mrg (cutH H) G' H)) (fun cls d G' => (∀ a o, H a = some o → cutH H a = none → G' a = none) → Own1 G' → E cls d (mrg (cutH H) G' H)))
def spCut (n : Nat) (sp : Sp) : Sp := fun vs H Q E => vs.length = n ∧ (Cl (cutH H) → sp vs (cutH H) (fun v G' => (∀ a o, H a = some o → cutH H a = none → G' a = none) → Own1 G' → Q v (mrg (cutH H) G' H)) (fun _ _ _ => False))
structure spBagX (n : Nat) (sp : Sp) (vs : List V) (H : Hp) (Q : VK) (E : XK) : Prop where
  len : vs.length = n
  ex : ∃ (b : Addr) (G : Hp), At b G H ∧ ∀ G0, Ex G G0 → At b G0 H → Cl (cutH G0) → sp vs (cutH G0) (fun v G' => (∀ a o, H a = some o → cutH G0 a = none → G' a = none) → Own1 G' → Q v (mrg (cutH G0) G' H)) (fun cls d G' => (∀ a o, H a = some o → cutH G0 a = none → G' a = none) → Own1 G' → E cls d (mrg (cutH G0) G' H))
structure spBag0 (n : Nat) (sp : Sp) (vs : List V) (H : Hp) (Q : VK) (E : XK) : Prop where
  len : vs.length = n
  ex : ∃ (b : Addr) (G : Hp), At b G H ∧ ∀ G0, Ex G G0 → At b G0 H → Cl (cutH G0) → sp vs (cutH G0) (fun v G' => (∀ a o, H a = some o → cutH G0 a = none → G' a = none) → Own1 G' → Q v (mrg (cutH G0) G' H)) (fun _ _ _ => False)
theorem At.max {b : Addr} {G H : Hp} (h : At b G H) (o : Own1 H) : ∃ G0, Ex G G0 ∧ At b G0 H ∧ Own1 G0 := by
  obtain ⟨c, ns, i, r, m, n, B⟩ := h
  have out : ∀ {a : Addr} {u : HO}, (if a = b ∨ a = c then none else H a) = some u → H a = some u := fun {a u} z => by
    by_cases hc : a = b ∨ a = c
    · rw [if_pos hc] at z
      cases z
    · rw [if_neg hc] at z
      exact z
  have inn : ∀ {a : Addr} {u : HO}, H a = some u → (∀ xs, u ≠ .lst xs) → (if a = b ∨ a = c then none else H a) = some u := fun {a u} z hn => by
    rw [if_neg ?_]
    · exact z
    · rintro (rfl | rfl)
      · rw [B.at_] at z
        cases z
        exact hn _ rfl
      · rw [B.cells] at z
        cases z
        exact hn _ rfl
  refine ⟨fun a => if a = b ∨ a = c then none else H a, fun a u z => ?_, ⟨c, ns, i, r, m, n, if_pos (.inl rfl), if_pos (.inr rfl), fun a u z => out z, B.at_, B.cells, B.ne, B.i0, B.r0, B.m0, B.m1⟩, fun a C dx fs z => inn (o a C dx fs (out z)) (fun _ => nofun)⟩
  show (if a = b ∨ a = c then none else H a) = some u
  rw [if_neg ?_]
  · exact B.ex _ _ z
  · rintro (rfl | rfl)
    · rw [B.nb] at z
      cases z
    · rw [B.nc] at z
      cases z
theorem bag_use {b : Addr} {G0 G' H : Hp} (hA : At b G0 H) (c : Cl (cutH G0)) (e1 : Ex (cutH G0) G') (u : ∀ a o, H a = some o → cutH G0 a = none → G' a = none) (o1 : Own1 G') :
    ∃ G2, Ex G0 G2 ∧ At b G2 (mrg (cutH G0) G' H) ∧ Ex (cutH G') G2 ∧ Ex H (mrg (cutH G0) G' H) := by
  obtain ⟨f1, f2, f3, f4, f5⟩ := fr_use (cut_sub.trans hA.ex) c e1 u o1
  obtain ⟨cc, ns, i, r, m, n, B⟩ := hA
  have out : ∀ {a : Addr} {v : HO}, mrg (cutH G0) G' H a = some v → ¬ (a = b ∨ a = cc) → (if a = b ∨ a = cc then none else mrg (cutH G0) G' H a) = some v := fun {a v} z hn => by
    rw [if_neg hn]
    exact z
  refine ⟨fun a => if a = b ∨ a = cc then none else mrg (cutH G0) G' H a, fun a v z => out (f4 _ _ (B.ex _ _ z)) ?_, ⟨cc, ns, i, r, m, n, if_pos (.inl rfl), if_pos (.inr rfl), fun a v z => ?_, f4 _ _ B.at_, f4 _ _ B.cells, B.ne, B.i0, B.r0, B.m0, B.m1⟩, fun a v z => out (f3 _ _ z) ?_, f4⟩
  · rintro (rfl | rfl)
    · rw [B.nb] at z
      cases z
    · rw [B.nc] at z
      cases z
  · by_cases hc : a = b ∨ a = cc
    · have z : (if a = b ∨ a = cc then none else mrg (cutH G0) G' H a) = some v := z
      rw [if_pos hc] at z
      cases z
    · have z : (if a = b ∨ a = cc then none else mrg (cutH G0) G' H a) = some v := z
      rw [if_neg hc] at z
      exact z
  · rintro (rfl | rfl)
    · rw [f5 _ _ B.at_ (cut_none B.nb)] at z
      cases z
    · rw [f5 _ _ B.cells (cut_none B.nc)] at z
      cases z
section
variable {P : Program} {w : World} {K : PySem.W.Frag} {mg : Str → Option Value} {base : Heap} {x : Str} {st : Stmt} {ps : List Str} {k : Nat} {sp : Sp}
theorem PrX.cutX (G : PrX P w K mg base x st ps k sp) : PrX P w K mg base x st ps k (spCutX ps.length sp) := by
  obtain ⟨f, fd, hm, F, hb, R⟩ := PrX.frameX G
  exact ⟨f, fd, hm, F, hb, FnOk.pre R (fun _ _ _ _ h => h.1) fun vs H Q E o h => ⟨cutH H, cut_sub, cut_cl o, h.2 (cut_cl o)⟩⟩
theorem Pr.cut (G : Pr P w K mg base x st ps k sp) : Pr P w K mg base x st ps k (spCut ps.length sp) := by
  obtain ⟨f, fd, hm, F, hb, R⟩ := Pr.frame G
  exact ⟨f, fd, hm, F, hb, FnOk.pre R (fun _ _ _ _ h => h.1) fun vs H Q E o h => ⟨cutH H, cut_sub, cut_cl o, h.2 (cut_cl o)⟩⟩
theorem PrX.bagX (G : PrX P w K mg base x st ps k sp) : PrX P w K mg base x st ps k (spBagX ps.length sp) := by
  obtain ⟨f, fd, hm, F, hb, R⟩ := PrX.frameX G
  refine ⟨f, fd, hm, F, hb, FnOk.pre R (fun _ _ _ _ h => h.1) fun vs H Q E o h => ?_⟩
  obtain ⟨_, b, G, hA, h⟩ := h
  obtain ⟨G0, g0, hA0, o0⟩ := hA.max o
  exact ⟨cutH G0, cut_sub.trans hA0.ex, cut_cl o0, h G0 g0 hA0 (cut_cl o0)⟩
theorem Pr.bag (G : Pr P w K mg base x st ps k sp) : Pr P w K mg base x st ps k (spBag0 ps.length sp) := by
  obtain ⟨f, fd, hm, F, hb, R⟩ := Pr.frame G
  refine ⟨f, fd, hm, F, hb, FnOk.pre R (fun _ _ _ _ h => h.1) fun vs H Q E o h => ?_⟩
  obtain ⟨_, b, G, hA, h⟩ := h
  obtain ⟨G0, g0, hA0, o0⟩ := hA.max o
  exact ⟨cutH G0, cut_sub.trans hA0.ex, cut_cl o0, h G0 g0 hA0 (cut_cl o0)⟩
theorem PrX.bag0 (G : PrX P w K mg base x st ps k sp) : Pr P w K mg base x st ps k (spBag0 ps.length sp) := by
  obtain ⟨f, fd, hm, F, hb, R⟩ := PrX.frame G
  refine ⟨f, fd, hm, F, hb, FnOk.pre R (fun _ _ _ _ h => h.1) fun vs H Q E o h => ?_⟩
  obtain ⟨_, b, G, hA, h⟩ := h
  obtain ⟨G0, g0, hA0, o0⟩ := hA.max o
  exact ⟨cutH G0, cut_sub.trans hA0.ex, cut_cl o0, h G0 g0 hA0 (cut_cl o0)⟩
end
end Eyes

set_option Elab.async false
set_option linter.all false
set_option maxRecDepth 100000
set_option maxHeartbeats 4000000
namespace Eyes
open PySem PySem.Spec PyProof.Rows L2 Evl TL
theorem cut_dK {G : Hp} {a : Addr} {kvs : List (Key × V)} (h : G a = some (.dK kvs)) : cutH G a = some (.dK kvs) := by
  unfold cutH
  rw [h]
theorem cut_xd {G : Hp} {a : Addr} {fs : List (Str × V)} (h : G a = some (.xd fs)) : cutH G a = some (.xd fs) := by
  unfold cutH
  rw [h]
theorem nice_eye {n : Str} (h : nm n) : (Ci.eye n).nice := ⟨h, by show 1 ≤ 60; decide, by show 0 ≤ 20; decide⟩
theorem CisAt.cut {C : Addr} {G : Hp} {vs : List V} {cs : List Ci} (h : CisAt C G vs cs) : CisAt C (cutH G) vs cs := h.mono2 (fun _ _ _ _ => cut_ins) fun _ _ => cut_lst
def spExch (K : PySem.W.Frag) (AA : Adr) : Sp := fun vs H Q E => ∃ (v x y : V) (c : Ci) (kx ky : Tk), vs = [v, x, y] ∧ Cl H ∧ CiAt AA.Circle H v c ∧ c.nice ∧ Knd K H x kx ∧ Knd K H y ky ∧
  (nameK kx = true → nameK ky = true → ∀ sx sy, x = .str sx → y = .str sy → nm sx → nm sy → ∀ v' H', Ex H H' → CiAt AA.Circle H' v' (mapC false (swp2 sx sy) c) → Q v' H') ∧
  (nameK kx = false → ∀ d H', H d = none → Ex H H' → H' d = some (.xd [("value", x)]) → E (.ref AA.InvalidName) (some d) H') ∧
  (nameK kx = true → nameK ky = false → ∀ d H', H d = none → Ex H H' → H' d = some (.xd [("value", y)]) → E (.ref AA.InvalidName) (some d) H')
def spCin (AA : Adr) (n : Nat) : Sp := fun vs H Q _ => ∃ (v : V) (c : Ci), vs = [v] ∧ Cl H ∧ CiAt AA.Circle H v c ∧ c.nice ∧ c.depth < n ∧ ∀ l ws H', H l = none → Ex H H' → H' l = some (.lst ws) → CisAt AA.Circle H' ws (cin c) → Q (.ref l) H'
section
variable {P : Program} {w : World} {K : PySem.W.Frag} {mg : Str → Option Value} {base : Heap} {AA : Adr}
end
end Eyes

set_option Elab.async false
set_option linter.all false
set_option maxRecDepth 100000
set_option maxHeartbeats 4000000
namespace Eyes
open PySem PySem.Spec PyProof.Rows L2 Evl TL
def rsData : Rs Ci → PyData
  | .yes c => .tuple [.str "", c.data]
  | .no z => .tuple [.str "TooMany", .tuple [.str z.1, .int z.2]]
theorem Rep.rs_no {H : Hp} {v : V} {z : Str × Nat} (h : Rep H v (rsData (.no z))) : ∃ p q, v = .ref p ∧ H p = some (.tup [.str "TooMany", .ref q]) ∧ H q = some (.tup [.str z.1, .int z.2]) := by
  have h : Rep H v (.tuple [.str "TooMany", .tuple [.str z.1, .int z.2]]) := h
  cases h with
  | tup h r =>
    cases r with
    | cons h1 r =>
      cases r with
      | cons h2 r =>
        cases r
        cases h1
        cases h2 with
        | tup h3 r3 =>
          cases r3 with
          | cons h4 r3 =>
            cases r3 with
            | cons h5 r3 =>
              cases r3
              cases h4
              cases h5
              exact ⟨_, _, rfl, h, h3⟩
theorem Rep.rs_yes {H : Hp} {v : V} {c : Ci} (h : Rep H v (rsData (.yes c))) : ∃ p x, v = .ref p ∧ H p = some (.tup [.str "", x]) ∧ Rep H x c.data := by
  have h : Rep H v (.tuple [.str "", c.data]) := h
  cases h with
  | tup h r =>
    cases r with
    | cons h1 r =>
      cases r with
      | cons h2 r =>
        cases r
        cases h1
        exact ⟨_, _, rfl, h, h2⟩
theorem Reps.lstUp {H : Hp} {p : Addr} {xs ys us : List V} {cs : List Ci} (hp : H p = some (.lst xs)) (h : Reps H us (datas cs)) : Reps (upd H p (.lst ys)) us (datas cs) := Reps.tups (fun a zs h => (upd_ne (by
  rintro rfl
  rw [hp] at h
  cases h)).trans h) h
theorem Rep.lstUp {H : Hp} {p : Addr} {xs ys : List V} {v : V} {c : Ci} (hp : H p = some (.lst xs)) (h : Rep H v c.data) : Rep (upd H p (.lst ys)) v c.data := Rep.tups (fun a zs h => (upd_ne (by
  rintro rfl
  rw [hp] at h
  cases h)).trans h) h
theorem Reps.unsnoc {H : Hp} : ∀ {l : List V} {a : V} {cs : List Ci}, Reps H (l ++ [a]) (datas cs) → ∃ cs' d, cs = cs' ++ [d] ∧ Reps H l (datas cs') ∧ Rep H a d.data
  | [], a, cs, h => by
    cases cs with
    | nil =>
      have h : Reps H [a] [] := h
      cases h
    | cons d r =>
      have h : Reps H [a] (d.data :: datas r) := h
      cases h with
      | cons h1 h2 =>
        cases r with
        | nil => exact ⟨[], d, rfl, .nil, h1⟩
        | cons e s =>
          have h2 : Reps H [] (e.data :: datas s) := h2
          cases h2
  | x :: l, a, cs, h => by
    cases cs with
    | nil =>
      have h : Reps H (x :: (l ++ [a])) [] := h
      cases h
    | cons d r =>
      have h : Reps H (x :: (l ++ [a])) (d.data :: datas r) := h
      cases h with
      | cons h1 h2 =>
        obtain ⟨cs', e, rfl, h3, h4⟩ := Reps.unsnoc h2
        exact ⟨d :: cs', e, rfl, .cons h1 h3, h4⟩
theorem Reps.rev {H : Hp} {us : List V} {cs : List Ci} (h : Reps H us (datas cs)) : Reps H us.reverse (datas cs.reverse) := by
  induction us generalizing cs with
  | nil =>
    cases cs with
    | nil => exact .nil
    | cons d r => cases h
  | cons u us ih =>
    cases cs with
    | nil => cases h
    | cons d r =>
      have h : Reps H (u :: us) (d.data :: datas r) := h
      cases h with
      | cons h1 h2 =>
        rw [List.reverse_cons, List.reverse_cons, datas_append]
        exact (ih h2).append (.cons h1 .nil)
theorem upd_comm {H : Hp} {a b : Addr} {x y : HO} (h : a ≠ b) : upd (upd H a x) b y = upd (upd H b y) a x := by
  funext c
  by_cases h1 : c = a
  · subst h1
    rw [upd_ne h, upd_same, upd_same]
  · by_cases h2 : c = b
    · subst h2
      rw [upd_same, upd_ne h1, upd_same]
    · rw [upd_ne h2, upd_ne h1, upd_ne h1, upd_ne h2]
theorem seqIx {d : Int} {n : Nat} (h0 : 0 ≤ d) (h1 : d < n) : seqIndex? d n = some d.toNat := by
  have h : ¬ d < 0 := by omega
  unfold seqIndex?
  simp [h, h0, h1]
theorem erase_perm {α : Type} : ∀ {l : List α} {k : Nat} (h : k < l.length), (l[k] :: l.eraseIdx k).Perm l
  | x :: l, 0, _ => List.Perm.refl _
  | x :: l, k + 1, h => (List.Perm.swap x _ _).trans ((erase_perm (l := l) (k := k) (by simpa using h)).cons x)
theorem tm_ne : decide (V.str "TooMany" = V.str (Str.ofString "")) = false := by decide +kernel
theorem em_eq : decide (V.str "" = V.str (Str.ofString "")) = true := by decide +kernel
def spTurn (n : Nat) : Sp := fun vs H Q _ => ∃ (v : V) (c : Ci), vs = [v] ∧ Rep H v c.data ∧ c.nice ∧ c.depth < n ∧ ∀ v' H', Ex H H' → Rep H' v' (flip c).data → Q v' H'
theorem few_sizes {cs : List Ci} (h : ∀ c ∈ cs, c.nice) (hl : cs.length ≤ 100) : sizes cs ≤ 6000 := by
  have h1 := sizes_mul (m := 60) (ps := cs) fun c hc => (h c hc).2.1
  have h2 : cs.length * 60 ≤ 100 * 60 := Nat.mul_le_mul_right _ hl
  omega
def spChecked (K : PySem.W.Frag) : Sp := fun vs H Q _ => ∃ (l : Addr) (us : List V) (k : Bool) (cs : List Ci), vs = [.str (kindS k), .ref l] ∧ SqL K H l us ∧ Reps H us (datas cs) ∧ (∀ c ∈ cs, c.nice) ∧ cs ≠ [] ∧ sizes cs ≤ 6000 ∧ ∀ v H', Ex H H' → Rep H' v (rsData (chk (mkC k cs))) → Q v H'
def TabAt (H : Hp) (d : Addr) (g : Str → Ci) : Prop := ∃ kvs : List (Key × V), H d = some (.dK kvs) ∧ ∀ n, nm n → (∃ v, valV kvs (.inr n) = some v ∧ Rep H v (g n).data) ∨ (valV kvs (.inr n) = none ∧ g n = .eye n)
theorem TabAt.mono {H H' : Hp} {d : Addr} {g : Str → Ci} (h : TabAt H d g) (e : Ex H H') : TabAt H' d g := by
  obtain ⟨kvs, h1, h2⟩ := h
  refine ⟨kvs, e _ _ h1, fun n hn => ?_⟩
  rcases h2 n hn with ⟨v, h3, h4⟩ | h3
  · exact .inl ⟨v, h3, Rep.mono e h4⟩
  · exact .inr h3
def spLput (n : Nat) : Sp := fun vs H Q _ => ∃ (v : V) (d : Addr) (c : Ci) (g : Str → Ci), vs = [v, .ref d] ∧ Rep H v c.data ∧ c.nice ∧ c.depth < n ∧ TabAt H d g ∧ (∀ n, nm n → (g n).nice) ∧ ∀ v' H', Ex H H' → Rep H' v' (rsData (putC g c)) → Q v' H'
def spWithin : Sp := fun vs H Q _ => ∃ (v : V) (c : Ci), vs = [v] ∧ Rep H v c.data ∧ c.nice ∧ ∀ l us H', H l = none → Ex H H' → H' l = some (.lst us) → Reps H' us (datas (cin c)) → Q (.ref l) H'
def spMixed : Sp := fun vs H Q _ => ∃ (b l : Addr) (G : Hp) (xs : List V), vs = [.ref b, .ref l] ∧ At b G H ∧ G l = some (.lst xs) ∧ xs.length ≤ 1000 ∧ ∀ l' ys H', G l' = none → At b (upd G l' (.lst ys)) H' → ys.Perm xs → Q (.ref l') H'
section
variable {P : Program} {w : World} {K : PySem.W.Frag} {mg : Str → Option Value} {base : Heap} {AA : Adr}
theorem ok_law_checked (T : Txt K mg AA) : Pr P w K mg base "_law_checked" s_law_checked p_law_checked 26 (spChecked K) := by
  refine pr_mk T.f_law_checked sc_law_checked (fun vs H Q E h => ?_) (fun f cdv A outer s H vs Q E hr h => ?_)
  · obtain ⟨l, us, k, cs, rfl, _⟩ := h
    rfl
  · obtain ⟨l, us, k, cs, rfl, hl, hr2, hn, hne, hlen, q⟩ := h
    refine ⟨_, (pss_cons (ps_set (i := 2) sc_law_checked.nd rfl (.inl rfl) (pcall (ok_law_join T) hr (pa_cons (pv 0) (pa_cons (pv 1) pa_nil))))
      (pss_cons (ps_if (pt_cmpR op_gt (pcall (ok_law_size T 25) hr (pa_cons (pv 2) pa_nil)) pe_int (nomark _))
      (pss_one (ps_ret (pe_tup (pa_cons pe_str (pa_cons (pe_tup (pa_cons pe_str (pa_cons pe_int pa_nil))) pa_nil)))))
      pss_nil)
      (pss_cons (ps_if (pt_cmpR op_gt (pcall (ok_law_depth T 25) hr (pa_cons (pv 2) pa_nil)) pe_int (nomark _))
      (pss_one (ps_ret (pe_tup (pa_cons pe_str (pa_cons (pe_tup (pa_cons pe_str (pa_cons pe_int pa_nil))) pa_nil)))))
      pss_nil)
      (pss_one (ps_ret (pe_tup (pa_cons pe_str (pa_cons (pv 2) pa_nil)))))))), ?_⟩
    have hsz : sizes cs ≤ 6000 := hlen
    have hnm := mkC_norm (k := k) hne fun c hc => (hn c hc).1
    have hbig : (mkC k cs).big := ⟨norm_of hnm, Nat.le_trans (mkC_size k cs) (by omega)⟩
    have hdp : (mkC k cs).depth ≤ 21 := mkC_depth fun c hc => (hn c hc).2.2
    have hfl := flat_le (k := k) fun c hc => norm_of (hn c hc).1
    refine ⟨_, rfl, _, rfl, l, us, k, cs, rfl, hl, hr2, fun c hc => norm_of (hn c hc).1, fun c hc => by have := (hn c hc).2.2; omega, by omega, fun v H1 e1 hv => ⟨_, rfl, v, _, rfl, hv, by omega, hbig, fun H2 e2 => ⟨_, _, rfl, rfl, _, rfl, ?_⟩⟩⟩
    have no : ∀ (z : Str × Nat) (H3 : Hp), over (mkC k cs) = some z → Ex H H3 → ∀ p, H3 p = none → ∀ p2, (upd H3 p (.tup [.str z.1, .int z.2])) p2 = none → Q (.ref p2) (upd (upd H3 p (.tup [.str z.1, .int z.2])) p2 (.tup [.str "TooMany", .ref p])) := fun z H3 ho e p hp p2 hp2 => by
      refine q _ _ ((e.trans (Ex.new hp)).trans (Ex.new hp2)) ?_
      unfold chk
      rw [ho]
      exact .tup upd_same (.cons (.str _) (.cons (.tup (Ex.new hp2 _ _ upd_same) (.cons (.str _) (.cons (.int _) .nil))) .nil))
    by_cases h60 : 60 < (mkC k cs).size
    · have hf1 : decide ((60 : Int) < ((mkC k cs).size : Int)) = true := decide_eq_true (by omega)
      rw [hf1]
      refine iteT ⟨by show 2 ≤ sizeLine; decide, fun p hp => ⟨by show 2 ≤ sizeLine; decide, fun p2 hp2 => no ("eyes", 60) H2 ?_ (e1.trans e2) p hp p2 hp2⟩⟩
      unfold over
      rw [if_pos h60]
    · have hf1 : decide ((60 : Int) < ((mkC k cs).size : Int)) = false := decide_eq_false (by omega)
      rw [hf1]
      refine iteF ⟨_, rfl, v, _, rfl, hv.mono e2, by omega, hbig, fun H3 e3 => ⟨_, _, rfl, rfl, _, rfl, ?_⟩⟩
      by_cases h20 : 20 < (mkC k cs).depth
      · have hf2 : decide ((20 : Int) < ((mkC k cs).depth : Int)) = true := decide_eq_true (by omega)
        rw [hf2]
        refine iteT ⟨by show 2 ≤ sizeLine; decide, fun p hp => ⟨by show 2 ≤ sizeLine; decide, fun p2 hp2 => no ("depth", 20) H3 ?_ ((e1.trans e2).trans e3) p hp p2 hp2⟩⟩
        unfold over
        rw [if_neg h60, if_pos h20]
      · have hf2 : decide ((20 : Int) < ((mkC k cs).depth : Int)) = false := decide_eq_false (by omega)
        rw [hf2]
        refine iteF ⟨_, rfl, by show 2 ≤ sizeLine; decide, fun p hp => q _ _ (((e1.trans e2).trans e3).trans (Ex.new hp)) ?_⟩
        have ho : over (mkC k cs) = none := over_none.mpr ⟨by omega, by omega⟩
        unfold chk
        rw [ho]
        exact .tup upd_same (.cons (.str _) (.cons (Rep.mono (e2.trans (e3.trans (Ex.new hp))) hv) .nil))
end
end Eyes

set_option Elab.async false
set_option linter.all false
set_option maxRecDepth 100000
set_option maxHeartbeats 4000000
namespace Eyes
open PySem PySem.Spec PyProof.Rows L2 Evl TL
def Told2 (AA : Adr) (Q : VK) : XK := fun cls d H1 => (cls = .ref AA.InvalidName ∧ ∃ (dd : Addr) (v : V), d = some dd ∧ H1 dd = some (.xd [("value", v)]) ∧ ∀ p1 p2 H', Ex H1 H' → H' p1 = some (.tup [v]) → H' p2 = some (.tup [.str "InvalidName", .ref p1]) → Q (.ref p2) H') ∨
  (cls = .ref AA.TooMany ∧ ∃ (dd : Addr) (a b : V), d = some dd ∧ H1 dd = some (.xd [("most", b), ("what", a)]) ∧ ∀ p1 p2 H', Ex H1 H' → H' p1 = some (.tup [a, b]) → H' p2 = some (.tup [.str "TooMany", .ref p1]) → Q (.ref p2) H')
def tTry2 (AA : Adr) : (XK → Hp → VK → Prop) → Hp → VK → Prop := fun tl H Q => ∃ (E1 : XK) (Q1 : VK), tl E1 H Q1 ∧ (∀ v H1, Q1 v H1 → ∀ p H', Ex H1 H' → H' p = some (.tup [.str "", v]) → Q (.ref p) H') ∧ ∀ cls d H1, E1 cls d H1 → Told2 AA Q cls d H1
def tWhy2 (AA : Adr) : (XK → Hp → VK → Prop) → Hp → VK → Prop := fun tl H Q => ∃ (E1 : XK) (Q1 : VK), tl E1 H Q1 ∧ (∀ v H1, Q1 v H1 → ∀ p1 p2 H', Ex H1 H' → H' p1 = some (.tup []) → H' p2 = some (.tup [.str "", .ref p1]) → Q (.ref p2) H') ∧ ∀ cls d H1, E1 cls d H1 → Told2 AA Q cls d H1
def FoundAt (C : Addr) (H : Hp) (f : V) (r : Rs Ci) : Prop := match r with
  | .yes c => ∃ p x, f = .ref p ∧ H p = some (.tup [.str "", x]) ∧ CiAt C H x c
  | .no z => Rep H f (rsData (.no z))
theorem FoundAt.mono {C : Addr} {H H' : Hp} {f : V} {r : Rs Ci} (h : FoundAt C H f r) (e : Ex H H') : FoundAt C H' f r := by
  cases r with
  | yes c =>
    obtain ⟨p, x, h1, h2, h3⟩ := h
    exact ⟨p, x, h1, e _ _ h2, h3.mono e⟩
  | no z => exact Rep.mono e h
def spAs (AA : Adr) : Sp := fun vs H Q _ => ∃ (f d : V) (r : Rs Ci), vs = [f, d] ∧ FoundAt AA.Circle H f r ∧ Rep H d (rsData r) ∧ (∀ c, r = .yes c → c.nice) ∧ ∀ H', Ex H H' → Q (.bl true) H'
section
variable {P : Program} {w : World} {K : PySem.W.Frag} {mg : Str → Option Value} {base : Heap} {AA : Adr}
theorem ok_law_try2 (T : Txt K mg AA) : PrC P w K mg base "_law_try" 60 62 (tTry2 AA) := by
  refine prC_mk T.f_law_try sc_law_try (fun g cdg A outer s H f c' q tl Q hr C hc ht => ?_)
  refine ⟨_, pss_one (ps_tryAs rfl rfl sc_law_try.nd (fun W pn xe tk po => pss_one (ps_ret (pe_tup (pa_cons pe_str (pa_cons (pe_ask2 (CXg := C8.CX0) (Eg := C8.E0) (i := 0) C tk (hr.mono (by decide)) rfl (.inl rfl)) pa_nil))))) (.cons (j := 1) ⟨rfl, by decide, .inl T.e_InvalidName.gC⟩ rfl rfl (fun e oe cls d pn hz hd => pss_one (ps_ret (pe_tup (pa_cons pe_str (pa_cons (pe_tup (pa_cons (pe_xf T.e_InvalidName.xf T.a_InvalidName_value hz hd (pv 1)) pa_nil)) pa_nil)))))
        (.cons (j := 1) ⟨rfl, by decide, .inl T.e_InvalidNumber.gC⟩ rfl rfl (fun e oe cls d pn hz hd => pss_one (ps_ret (pe_tup (pa_cons pe_str (pa_cons (pe_tup (pa_cons (pe_xf T.e_InvalidNumber.xf T.a_InvalidNumber_value hz hd (pv 1)) pa_nil)) pa_nil)))))
        (.cons (j := 1) ⟨rfl, by decide, .inl T.e_InvalidText.gC⟩ rfl rfl (fun e oe cls d pn hz hd => pss_one (ps_ret (pe_tup (pa_cons pe_str (pa_cons (pe_tup (pa_cons (pe_xf T.e_InvalidText.xf T.a_InvalidText_at hz hd (pv 1)) pa_nil)) pa_nil)))))
        (.cons (j := 1) ⟨rfl, by decide, .inl T.e_InvalidCircle.gC⟩ rfl rfl (fun e oe cls d pn hz hd => pss_one (ps_ret (pe_tup (pa_cons pe_str (pa_cons (pe_tup (pa_cons (pe_xf T.e_InvalidCircle.xf T.a_InvalidCircle_at hz hd (pv 1)) pa_nil)) pa_nil)))))
        (.cons (j := 1) ⟨rfl, by decide, .inl T.e_InvalidTie.gC⟩ rfl rfl (fun e oe cls d pn hz hd => pss_one (ps_ret (pe_tup (pa_cons pe_str (pa_cons (pe_tup (pa_cons (pe_xf T.e_InvalidTie.xf T.a_InvalidTie_at hz hd (pv 1)) pa_nil)) pa_nil)))))
        (.cons (j := 1) ⟨rfl, by decide, .inl T.e_InvalidParting.gC⟩ rfl rfl (fun e oe cls d pn hz hd => pss_one (ps_ret (pe_tup (pa_cons pe_str (pa_cons (pe_tup (pa_cons (pe_xf T.e_InvalidParting.xf T.a_InvalidParting_value hz hd (pv 1)) pa_nil)) pa_nil)))))
        (.cons (j := 1) ⟨rfl, by decide, .inl T.e_InvalidCase.gC⟩ rfl rfl (fun e oe cls d pn hz hd => pss_one (ps_ret (pe_tup (pa_cons pe_str (pa_cons (pe_tup (pa_cons (pe_xf T.e_InvalidCase.xf T.a_InvalidCase_value hz hd (pv 1)) pa_nil)) pa_nil)))))
        (.cons (j := 1) ⟨rfl, by decide, .inl T.e_TooMany.gC⟩ rfl rfl (fun e oe cls d pn hz hd => pss_one (ps_ret (pe_tup (pa_cons pe_str (pa_cons (pe_tup (pa_cons (pe_xf T.e_TooMany.xf T.a_TooMany_what hz hd (pv 1)) (pa_cons (pe_xf T.e_TooMany.xf T.a_TooMany_most hz hd (pv 1)) pa_nil))) pa_nil)))))
        HdsAs.rest))))))))), ?_⟩
  obtain ⟨E1, Q1, ht, hQ, hE⟩ := ht
  refine ⟨rfl, hc, _, _, ht, fun v H1 h => ⟨by show 2 ≤ sizeLine; decide, fun p hp => hQ v H1 h p _ (Ex.new hp) upd_same⟩, fun cls d H1 h => ?_⟩
  rcases hE _ _ _ h with ⟨rfl, dd, v, rfl, hx, h⟩ | ⟨rfl, dd, a, b, rfl, hx, h⟩
  · refine ⟨_, T.x_InvalidName_InvalidName, fun _ e he => ?_, fun z => (nomatch z)⟩
    exact ⟨_, rfl, rfl, rfl, dd, _, v, rfl, hx, rfl, by show 1 ≤ sizeLine; decide, fun p1 hp1 => ⟨by show 2 ≤ sizeLine; decide, fun p2 hp2 => h p1 p2 _ ((Ex.new hp1).trans (Ex.new hp2)) (Ex.new hp2 _ _ upd_same) upd_same⟩⟩
  · refine ⟨_, T.x_TooMany_InvalidName, fun z => (nomatch z), fun _ => ⟨_, T.x_TooMany_InvalidNumber, fun z => (nomatch z), fun _ => ⟨_, T.x_TooMany_InvalidText, fun z => (nomatch z), fun _ => ⟨_, T.x_TooMany_InvalidCircle, fun z => (nomatch z), fun _ => ⟨_, T.x_TooMany_InvalidTie, fun z => (nomatch z), fun _ => ⟨_, T.x_TooMany_InvalidParting, fun z => (nomatch z), fun _ => ⟨_, T.x_TooMany_InvalidCase, fun z => (nomatch z), fun _ => ⟨_, T.x_TooMany_TooMany, fun _ e he => ?_, fun z => (nomatch z)⟩⟩⟩⟩⟩⟩⟩⟩
    exact ⟨_, rfl, rfl, rfl, dd, _, a, rfl, hx, rfl, _, rfl, rfl, rfl, dd, _, b, rfl, hx, rfl, by show 2 ≤ sizeLine; decide, fun p1 hp1 => ⟨by show 2 ≤ sizeLine; decide, fun p2 hp2 => h p1 p2 _ ((Ex.new hp1).trans (Ex.new hp2)) (Ex.new hp2 _ _ upd_same) upd_same⟩⟩
theorem ok_law_as (T : Txt K mg AA) : Pr P w K mg base "_law_as" s_law_as p_law_as 28 (spAs AA) := by
  refine pr_mk T.f_law_as sc_law_as (fun vs H Q E h => ?_) (fun f cdv A outer s H vs Q E hr h => ?_)
  · obtain ⟨f, d, r, rfl, _⟩ := h
    rfl
  · obtain ⟨f, d, r, rfl, hf, hd, hn, q⟩ := h
    refine ⟨_, (pss_cons (ps_if (PW.pt (pw_or (pt_cmpR op_ne (pe_ix (ix_tupK (K := K) rfl) (pv 1) pe_int (fun _ _ => rfl)) pe_str (nomark _)) (pw_or1 (pt_cmpR op_ne (pe_ix (ix_tupK (K := K) rfl) (pv 0) pe_int (fun _ _ => rfl)) pe_str (nomark _)))))
      (pss_one (ps_ret (pcall (ok_law_sm T 12) hr (pa_cons (pv 0) (pa_cons (pv 1) pa_nil)))))
      pss_nil)
      (pss_one (ps_ret (pe_and (pe_callB (call_isiK (K := K) rfl) (by rfl) T.n_isinstance PyProof.Rows.boot_isinstance (pa_cons (pe_ix (ix_tupK (K := K) rfl) (pv 0) pe_int (fun _ _ => rfl)) (pa_cons (pe_glob (v := .ref AA.Circle) (by rfl) T.m_Circle rfl) pa_nil))) (pe_one (pcall (ok_law_sm T 12) hr (pa_cons (pcall (ok_law_told_of T) hr (pa_cons (pe_ix (ix_tupK (K := K) rfl) (pv 0) pe_int (fun _ _ => rfl)) pa_nil)) (pa_cons (pcall (ok_law_due_of T) hr (pa_cons (pe_ix (ix_tupK (K := K) rfl) (pv 1) pe_int (fun _ _ => rfl)) pa_nil)) pa_nil)))))))), ?_⟩
    cases r with
    | no z =>
      have hf : Rep H f (rsData (.no z)) := hf
      obtain ⟨p, p2, rfl, hp, hp2⟩ := hd.rs_no
      refine ⟨_, rfl, p, _, 0, _, rfl, rfl, st_of hp, rfl, rfl, _, rfl, ?_⟩
      refine iteT (iteT ⟨_, rfl, _, rfl, f, _, rfl, Rep.sm 12 hf hd ?_ ?_, fun H' e => q H' e⟩)
      · simp only [rsData, PyData.depth, PyData.depthAll]
        decide
      · simp only [rsData, wid, widAll, List.length_cons, List.length_nil]
        decide
    | yes c =>
      obtain ⟨p, x, rfl, hp, hx⟩ := hf
      obtain ⟨p2, y, rfl, hp2, hy⟩ := hd.rs_yes
      have hnc := hn c rfl
      obtain ⟨px, dx, lx, vx, rfl, hpx, _, _⟩ := hx.at_
      refine ⟨_, rfl, p2, _, 0, _, rfl, rfl, st_of hp2, rfl, rfl, _, rfl, iteF ⟨_, rfl, p, _, 0, _, rfl, rfl, st_of hp, rfl, rfl, _, rfl, iteF ?_⟩⟩
      refine ⟨_, rfl, p, _, 1, _, rfl, rfl, st_of hp, rfl, _, _, _, _, _, rfl, .own _, .base (.ins hpx T.c_Circle T.y_Circle.ty1 T.y_Circle.ty2 T.y_Circle.ty3 T.y_Circle.ty4), kit_self, ?_⟩
      refine ⟨_, rfl, iteT ⟨_, rfl, p, _, 1, _, rfl, rfl, st_of hp, rfl, _, c, rfl, hx, hnc.fine, hnc.2.2, fun v1 ys1 H1 hy1 e1 r1 => ⟨_, rfl, p2, _, 1, _, rfl, rfl, st_of (e1 _ _ hp2), rfl, y, c, rfl, Rep.mono e1 hy, hnc.fine, hnc.2.2, fun v2 ys2 H2 hy2 e2 r2 => ⟨v1, v2, rfl, told_sm hnc.fine hy1 hy2 (Rep.mono e2 r1) r2, fun H3 e3 => q H3 ((e1.trans e2).trans e3)⟩⟩⟩⟩
end
end Eyes

set_option Elab.async false
set_option linter.all false
set_option maxRecDepth 100000
set_option maxHeartbeats 4000000
namespace Eyes
open PySem PySem.Spec PyProof.Rows L2 Evl TL LamX
theorem At.extN {b : Addr} {G H H1 : Hp} {TT : List (Addr × Str)} (h : At b G H) (e : ExtN H H1) (t : Tabs TT H1) : ∃ G', At b G' H1 ∧ ExtN G G' ∧ Tabs TT G' ∧ ∀ a o, H1 a = some o → H a = none ∨ (∃ o2, G a = some o2) → G' a = some o := by
  obtain ⟨c, ns, i, r, m, n, B⟩ := h
  have hb := e _ _ B.at_ (fun _ => nofun)
  have hc := e _ _ B.cells (fun _ => nofun)
  have keep : ∀ {a : Addr} {o : HO}, H1 a = some o → (∀ xs, o ≠ .lst xs) → (if a = b ∨ a = c then none else H1 a) = some o := fun {a o} z n => by
    rw [if_neg ?_]
    · exact z
    · rintro (rfl | rfl)
      · rw [hb] at z
        cases z
        exact n _ rfl
      · rw [hc] at z
        cases z
        exact n _ rfl
  refine ⟨fun a => if a = b ∨ a = c then none else H1 a, ⟨c, ns, i, r, m, n, if_pos (.inl rfl), if_pos (.inr rfl), fun a u z => ?_, hb, hc, B.ne, B.i0, B.r0, B.m0, B.m1⟩, fun a o z nt => ?_, fun p hp => ?_, fun a o z g => ?_⟩
  · by_cases hc : a = b ∨ a = c
    · have z : (if a = b ∨ a = c then none else H1 a) = some u := z
      rw [if_pos hc] at z
      cases z
    · have z : (if a = b ∨ a = c then none else H1 a) = some u := z
      rw [if_neg hc] at z
      exact z
  · show (if a = b ∨ a = c then none else H1 a) = some o
    rw [if_neg ?_]
    · exact e _ _ (B.ex _ _ z) nt
    · rintro (rfl | rfl)
      · rw [B.nb] at z
        cases z
      · rw [B.nc] at z
        cases z
  · obtain ⟨ps, h1, h2, h3⟩ := t p hp
    refine ⟨ps, keep h1 (fun _ => nofun), h2, fun pos cv hcv => ?_⟩
    obtain ⟨c', e1, e2⟩ := h3 pos cv hcv
    exact ⟨c', e1, keep e2 (fun _ => nofun)⟩
  · show (if a = b ∨ a = c then none else H1 a) = some o
    rw [if_neg ?_]
    · exact z
    · rintro (rfl | rfl)
      · rcases g with g | ⟨o2, g⟩
        · rw [B.at_] at g
          cases g
        · rw [B.nb] at g
          cases g
      · rcases g with g | ⟨o2, g⟩
        · rw [B.cells] at g
          cases g
        · rw [B.nc] at g
          cases g
theorem TyX.exN {K : PySem.W.Frag} {H H' : Hp} {v : V} {t : Value} (e : ExtN H H') (h : TyX K H v t) : TyX K H' v t := by
  cases h with
  | base h =>
    cases h with
    | non => exact .base .non
    | bl b => exact .base (.bl b)
    | int b => exact .base (.int b)
    | str b => exact .base (.str b)
    | flt b => exact .base (.flt b)
    | lst h => exact .base (.lst (e _ _ h (fun _ => nofun)))
    | frz h => exact .base (.frz (e _ _ h (fun _ => nofun)))
    | tup h => exact .base (.tup (e _ _ h (fun _ => nofun)))
    | dK h => exact .base (.dK (e _ _ h (fun _ => nofun)))
    | dT h => exact .base (.dT (e _ _ h (fun _ => nofun)))
    | ins h h1 h2 h3 h4 h5 => exact .base (.ins (e _ _ h (fun _ => nofun)) h1 h2 h3 h4 h5)
  | byt b => exact .byt b
  | set h => exact .set (e _ _ h (fun _ => nofun))
  | kList h c => exact .kList h c
  | kTuple h c => exact .kTuple h c
  | kDict h c => exact .kDict h c
  | fTuple h => exact .fTuple (e _ _ h (fun _ => nofun))
  | fDict h => exact .fDict (e _ _ h (fun _ => nofun))
theorem CiAt.exN {C : Addr} {H H' : Hp} {v : V} {c : Ci} (e : ExtN H H') (h : CiAt C H v c) : CiAt C H' v c := h.mono2 (fun _ _ _ _ z => e _ _ z (fun _ => nofun)) fun _ _ z => e _ _ z (fun _ => nofun)
theorem Sm.up {C : Addr} {H : Hp} {n : Nat} {x y : V} (h : Sm C H n x y) : ∀ {m : Nat}, n ≤ m → Sm C H m x y := by
  induction h with
  | sc h => intro m hm; obtain ⟨j, rfl⟩ : ∃ j, m = j + 1 := ⟨m - 1, by omega⟩; exact .sc h
  | ci h1 h2 h3 => intro m hm; obtain ⟨j, rfl⟩ : ∃ j, m = j + 1 := ⟨m - 1, by omega⟩; exact .ci h1 h2 h3
  | lst h1 h2 h3 h4 _ ih => intro m hm; obtain ⟨j, rfl⟩ : ∃ j, m = j + 1 := ⟨m - 1, by omega⟩; exact .lst h1 h2 h3 h4 fun i u v e1 e2 => ih i u v e1 e2 (by omega)
  | tup h1 h2 h3 h4 _ ih => intro m hm; obtain ⟨j, rfl⟩ : ∃ j, m = j + 1 := ⟨m - 1, by omega⟩; exact .tup h1 h2 h3 h4 fun i u v e1 e2 => ih i u v e1 e2 (by omega)
theorem Sm.exN {C : Addr} {H H' : Hp} (e : ExtN H H') {n : Nat} {x y : V} (h : Sm C H n x y) : Sm C H' n x y := by
  induction h with
  | sc h => exact .sc h
  | ci h1 h2 h3 => exact .ci (h1.exN e) (h2.exN e) h3
  | lst h1 h2 h3 h4 _ ih => exact .lst (e _ _ h1 (fun _ => nofun)) (e _ _ h2 (fun _ => nofun)) h3 h4 ih
  | tup h1 h2 h3 h4 _ ih => exact .tup (e _ _ h1 (fun _ => nofun)) (e _ _ h2 (fun _ => nofun)) h3 h4 ih
theorem pair_sm {C : Addr} {H : Hp} {n : Nat} {a b p q : Addr} {z : Str} {x : V} (ha : H a = some (.tup [.str z, .ref p])) (hp : H p = some (.tup [x])) (hb : H b = some (.tup [.str z, .ref q])) (hq : H q = some (.tup [x])) (hx : Sm C H (n + 1) x x) : Sm C H (n + 3) (.ref a) (.ref b) := by
  refine .tup ha hb rfl (by show 2 ≤ 90000; decide) fun i u v e1 e2 => ?_
  match i, e1, e2 with
  | 0, e1, e2 =>
    cases e1
    cases e2
    exact .sc (.inr (.inr (.inr ⟨_, rfl⟩)))
  | 1, e1, e2 =>
    cases e1
    cases e2
    exact .tup hp hq rfl (by show 1 ≤ 90000; decide) (one_sm hx)
  | i + 2, e1, e2 => simp at e1
theorem none_sm {C : Addr} {H : Hp} {n : Nat} {a b p q : Addr} {z : Str} (ha : H a = some (.tup [.str z, .ref p])) (hp : H p = some (.tup [])) (hb : H b = some (.tup [.str z, .ref q])) (hq : H q = some (.tup [])) : Sm C H (n + 3) (.ref a) (.ref b) := by
  refine .tup ha hb rfl (by show 2 ≤ 90000; decide) fun i u v e1 e2 => ?_
  match i, e1, e2 with
  | 0, e1, e2 =>
    cases e1
    cases e2
    exact .sc (.inr (.inr (.inr ⟨_, rfl⟩)))
  | 1, e1, e2 =>
    cases e1
    cases e2
    exact .tup hp hq rfl (Nat.zero_le _) (fun j u v e1 _ => by simp at e1)
  | i + 2, e1, e2 => simp at e1
mutual
theorem Rep.exN {H H' : Hp} (e : ExtN H H') : ∀ {v : V} {d : PyData}, Rep H v d → Rep H' v d
  | _, _, .non => .non
  | _, _, .bl b => .bl b
  | _, _, .int i => .int i
  | _, _, .str z => .str z
  | _, _, .lst h r => .lst (e _ _ h (fun _ => nofun)) (Reps.exN e r)
  | _, _, .tup h r => .tup (e _ _ h (fun _ => nofun)) (Reps.exN e r)
theorem Reps.exN {H H' : Hp} (e : ExtN H H') : ∀ {us : List V} {ds : List PyData}, Reps H us ds → Reps H' us ds
  | _, _, .nil => .nil
  | _, _, .cons h r => .cons (Rep.exN e h) (Reps.exN e r)
end
theorem At.set {b : Addr} {G H : Hp} {p : Addr} {o o' : HO} (h : At b G H) (hp : G p = some o) : At b (upd G p o') (upd H p o') := by
  rw [← upd_self hp] at h
  have h2 := At.put (o' := o') h
  exact h2
theorem CiAt.dK {C : Addr} {G : Hp} {p : Addr} {k1 k2 : List (Key × V)} (hp : G p = some (.dK k1)) {v : V} {c : Ci} (h : CiAt C G v c) : CiAt C (upd G p (.dK k2)) v c := by
  have other : ∀ {a : Addr} {o : HO}, G a = some o → (∀ zs, o ≠ .dK zs) → upd G p (.dK k2) a = some o := fun {a o} e n => by
    rw [upd_ne]
    · exact e
    · rintro rfl
      rw [hp] at e
      cases e
      exact n _ rfl
  exact h.mono2 (fun _ _ _ _ z => other z (fun _ => nofun)) fun _ _ z => other z (fun _ => nofun)
theorem Tabs.dK {T : List (Addr × Str)} {G : Hp} {p : Addr} {k1 k2 : List (Key × V)} (hp : G p = some (.dK k1)) (h : Tabs T G) : Tabs T (upd G p (.dK k2)) := by
  have other : ∀ {a : Addr} {o : HO}, G a = some o → (∀ zs, o ≠ .dK zs) → upd G p (.dK k2) a = some o := fun {a o} e n => by
    rw [upd_ne]
    · exact e
    · rintro rfl
      rw [hp] at e
      cases e
      exact n _ rfl
  intro q hq
  obtain ⟨ps, h1, h2, h3⟩ := h q hq
  refine ⟨ps, other h1 (fun _ => nofun), h2, fun pos cv hcv => ?_⟩
  obtain ⟨c', e1, e2⟩ := h3 pos cv hcv
  exact ⟨c', e1, other e2 (fun _ => nofun)⟩
mutual
theorem Rep.mono2 {H H' : Hp} (e1 : ∀ a xs, H a = some (.lst xs) → H' a = some (.lst xs)) (e2 : ∀ a xs, H a = some (.tup xs) → H' a = some (.tup xs)) : ∀ {v : V} {d : PyData}, Rep H v d → Rep H' v d
  | _, _, .non => .non
  | _, _, .bl b => .bl b
  | _, _, .int i => .int i
  | _, _, .str z => .str z
  | _, _, .lst h r => .lst (e1 _ _ h) (Reps.mono2 e1 e2 r)
  | _, _, .tup h r => .tup (e2 _ _ h) (Reps.mono2 e1 e2 r)
theorem Reps.mono2 {H H' : Hp} (e1 : ∀ a xs, H a = some (.lst xs) → H' a = some (.lst xs)) (e2 : ∀ a xs, H a = some (.tup xs) → H' a = some (.tup xs)) : ∀ {us : List V} {ds : List PyData}, Reps H us ds → Reps H' us ds
  | _, _, .nil => .nil
  | _, _, .cons h r => .cons (Rep.mono2 e1 e2 h) (Reps.mono2 e1 e2 r)
end
theorem At.tup {b : Addr} {G H0 H : Hp} (h : At b G H0) (e : Ex H0 H) : ∃ G', At b G' H ∧ Ex G G' ∧ ∀ a xs, H a = some (.tup xs) → G' a = some (.tup xs) := by
  obtain ⟨G', h1, h2, h3⟩ := h.all e
  refine ⟨G', h1, h2, fun a xs z => (h3 a fun ys z2 => ?_).trans z⟩
  rw [e _ _ z2] at z
  cases z
theorem Rep.cut {G : Hp} : ∀ {v : V} {d : PyData}, Rep G v d → Rep (cutH G) v d := fun {v d} h => Rep.mono2 (fun _ _ => cut_lst) (fun _ _ => cut_tup) h
theorem ImgAt.exN {C : Addr} {H H' : Hp} {d : Addr} {g : Str → Ci} (h : ImgAt C H d g) (e : ExtN H H') : ImgAt C H' d g := by
  obtain ⟨kvs, h1, h2⟩ := h
  refine ⟨kvs, e _ _ h1 (fun _ => nofun), fun n hn => ?_⟩
  rcases h2 n hn with ⟨v, h3, h4⟩ | h3
  · exact .inl ⟨v, h3, h4.exN e⟩
  · exact .inr h3
theorem ImgAt.cut {C : Addr} {H : Hp} {d : Addr} {g : Str → Ci} (h : ImgAt C H d g) : ImgAt C (cutH H) d g := by
  obtain ⟨kvs, h1, h2⟩ := h
  refine ⟨kvs, cut_dK h1, fun n hn => ?_⟩
  rcases h2 n hn with ⟨v, h3, h4⟩ | h3
  · exact .inl ⟨v, h3, h4.cut⟩
  · exact .inr h3
theorem FoundAt.exN {C : Addr} {H H' : Hp} {f : V} {r : Rs Ci} (h : FoundAt C H f r) (e : ExtN H H') : FoundAt C H' f r := by
  cases r with
  | yes c =>
    obtain ⟨p, x, h1, h2, h3⟩ := h
    exact ⟨p, x, h1, e _ _ h2 (fun _ => nofun), h3.exN e⟩
  | no z => exact Rep.exN e h
theorem try_put {AA : Adr} {b d : Addr} {G H : Hp} {v : V} {c : Ci} {g : Str → Ci} {R : VK} (hA : At b G H) (hT : Tabs (TT AA) G) (hc : CiAt AA.Circle G v c) (hnc : c.nice) (hI : ImgAt AA.Circle G d g) (hg : ∀ n, nm n → (g n).nice)
    (hR : ∀ f G' H', At b G' H' → ExtN G G' → Tabs (TT AA) G' → FoundAt AA.Circle G' f (putC g c) → R f H') : tTry2 AA (fun E H Q => spBagX 2 (spPut AA 25) [v, .ref d] H Q E) H R := by
  have hd := hnc.2.2
  refine ⟨fun cls d H1 => ∃ G2 z dd, At b G2 H1 ∧ Ex G G2 ∧ putC g c = .no z ∧ cls = .ref AA.TooMany ∧ d = some dd ∧ G2 dd = some (.xd [("most", .int z.2), ("what", .str z.1)]), fun v' H1 => ∃ G2 c', At b G2 H1 ∧ Ex G G2 ∧ putC g c = .yes c' ∧ CiAt AA.Circle G2 v' c',
    ⟨rfl, b, G, hA, fun G0 g0 hA0 c0 => ⟨v, d, c, g, rfl, c0, (hc.mono g0).cut, hnc, by omega, (hI.mono g0).cut, hg, fun c' hc' v' G' e' hv' u o1 => ?_, fun z hz dd G' hdd e' hx u o1 => ?_⟩⟩, fun v' H1 h p H' e hp => ?_, fun cls d H1 h => ?_⟩
  · obtain ⟨G2, g2, hA2, x2, _⟩ := bag_use hA0 c0 e' u o1
    exact ⟨G2, c', hA2, g0.trans g2, hc', hv'.cut.mono x2⟩
  · obtain ⟨G2, g2, hA2, x2, _⟩ := bag_use hA0 c0 e' u o1
    exact ⟨G2, z, dd, hA2, g0.trans g2, hz, rfl, rfl, x2 _ _ (cut_xd hx)⟩
  · obtain ⟨G2, c', hA2, g2, hc', hv'⟩ := h
    obtain ⟨G3, hA3, g3, h3⟩ := hA2.tup e
    have hpG := h3 _ _ hp
    refine hR _ G3 H' hA3 (ExtN.of (g2.trans g3)) ((hT.ext g2).ext g3) ?_
    rw [hc']
    exact ⟨p, v', rfl, hpG, hv'.mono g3⟩
  · obtain ⟨G2, z, dd, hA2, g2, hz, rfl, rfl, hx⟩ := h
    refine .inr ⟨rfl, dd, _, _, rfl, hA2.ex _ _ hx, fun p1 p2 H' e h1 h2 => ?_⟩
    obtain ⟨G3, hA3, g3, h3⟩ := hA2.tup e
    refine hR _ G3 H' hA3 (ExtN.of (g2.trans g3)) ((hT.ext g2).ext g3) ?_
    rw [hz]
    exact .tup (h3 _ _ h2) (.cons (.str _) (.cons (.tup (h3 _ _ h1) (.cons (.str _) (.cons (.int _) .nil))) .nil))
theorem Rep.dK {G : Hp} {p : Addr} {k1 k2 : List (Key × V)} (hp : G p = some (.dK k1)) {v : V} {d : PyData} (h : Rep G v d) : Rep (upd G p (.dK k2)) v d := by
  have other : ∀ {a : Addr} {o : HO}, G a = some o → (∀ zs, o ≠ .dK zs) → upd G p (.dK k2) a = some o := fun {a o} e n => by
    rw [upd_ne]
    · exact e
    · rintro rfl
      rw [hp] at e
      cases e
      exact n _ rfl
  exact h.mono2 (fun _ _ z => other z (fun _ => nofun)) fun _ _ z => other z (fun _ => nofun)
def EntN (G : Hp) (kvs : List (Key × V)) (g : Str → Ci) : Prop := ∀ n, nm n → (∃ v, valV kvs (.inr n) = some v ∧ Rep G v (g n).data) ∨ (valV kvs (.inr n) = none ∧ g n = .eye n)
def KeyN (kvs : List (Key × V)) : Prop := ∀ p ∈ kvs, ∃ n, p.1 = .inr n ∧ nm n
theorem KeyN.put {kvs : List (Key × V)} {n : Str} {v : V} (h : KeyN kvs) (hn : nm n) : KeyN (putK kvs (.inr n) v) := fun p hp => by
  unfold putK at hp
  split at hp
  · obtain ⟨q, hq, rfl⟩ := List.mem_map.mp hp
    split
    · exact ⟨n, (by rename_i e; exact e), hn⟩
    · exact h q hq
  · rcases List.mem_append.mp hp with hp | hp
    · exact h p hp
    · rw [List.mem_singleton.mp hp]
      exact ⟨n, rfl, hn⟩
theorem EntN.mono {G G' : Hp} {kvs : List (Key × V)} {g : Str → Ci} (h : EntN G kvs g) (e : Ex G G') : EntN G' kvs g := fun n hn => by
  rcases h n hn with ⟨v, h3, h4⟩ | h3
  · exact .inl ⟨v, h3, Rep.mono e h4⟩
  · exact .inr h3
theorem EntN.tab {G : Hp} {d : Addr} {kvs : List (Key × V)} {g : Str → Ci} (h : EntN G kvs g) (hd : G d = some (.dK kvs)) : TabAt (cutH G) d g := by
  refine ⟨kvs, cut_dK hd, fun n hn => ?_⟩
  rcases h n hn with ⟨v, h3, h4⟩ | h3
  · exact .inl ⟨v, h3, Rep.cut h4⟩
  · exact .inr h3
theorem key_eq {n m : Str} : ((Sum.inr n : Key) = Sum.inr m) ↔ n = m := ⟨fun z => Sum.inr.inj z, fun z => by rw [z]⟩
theorem EntN.put {G : Hp} {p : Addr} {k1 : List (Key × V)} {kvs : List (Key × V)} {g : Str → Ci} {m : Str} {v : V} {c : Ci} (hp : G p = some (.dK k1)) {k2 : List (Key × V)} (h : EntN G kvs g) (hv : Rep G v c.data) : EntN (upd G p (.dK k2)) (putK kvs (.inr m) v) (fun n => if n = m then c else g n) := fun n hn => by
  show (∃ v', valV (putK kvs (.inr m) v) (.inr n) = some v' ∧ Rep _ v' (if n = m then c else g n).data) ∨ valV (putK kvs (.inr m) v) (.inr n) = none ∧ (if n = m then c else g n) = .eye n
  rw [valV_put]
  by_cases e : n = m
  · rw [if_pos (key_eq.mpr e), if_pos e]
    exact .inl ⟨v, rfl, Rep.dK hp hv⟩
  · rw [if_neg (fun z => e (key_eq.mp z)), if_neg e]
    rcases h n hn with ⟨v', h3, h4⟩ | h3
    · exact .inl ⟨v', h3, Rep.dK hp h4⟩
    · exact .inr h3
theorem tTry2.imp {AA : Adr} {t1 t2 : XK → Hp → VK → Prop} {H : Hp} {R : VK} (h : ∀ E H Q, t1 E H Q → t2 E H Q) (g : tTry2 AA t1 H R) : tTry2 AA t2 H R := by
  obtain ⟨E1, Q1, h1, h2, h3⟩ := g
  exact ⟨E1, Q1, h _ _ _ h1, h2, h3⟩
abbrev keysV (kvs : List (Key × V)) : List V := kvs.map fun kv => kV kv.1
theorem mem_keys {kvs : List (Key × V)} {n : Str} : V.str n ∈ keysV kvs ↔ (valV kvs (.inr n)).isSome = true := by
  rw [← valV_any, List.any_eq_true, List.mem_map]
  constructor
  · rintro ⟨p, hp, e⟩
    refine ⟨p, hp, decide_eq_true ?_⟩
    obtain ⟨k, v⟩ := p
    cases k with
    | inl i => cases e
    | inr m =>
      have e : V.str m = V.str n := e
      cases e
      rfl
  · rintro ⟨p, hp, e⟩
    refine ⟨p, hp, ?_⟩
    rw [of_decide_eq_true e]
    rfl
theorem KeyN.str {kvs : List (Key × V)} (h : KeyN kvs) {x : V} (hx : x ∈ keysV kvs) : ∃ n, x = .str n ∧ nm n := by
  obtain ⟨p, hp, rfl⟩ := List.mem_map.mp hx
  obtain ⟨n, e, hn⟩ := h p hp
  exact ⟨n, (by rw [e]; rfl), hn⟩
def EntC (C : Addr) (G : Hp) (kvs : List (Key × V)) (S : List V) (g : Str → Ci) : Prop := ∀ n, nm n → (V.str n ∈ S → ∃ v, valV kvs (.inr n) = some v ∧ CiAt C G v (g n)) ∧ (V.str n ∉ S → valV kvs (.inr n) = none)
theorem EntC.mono {C : Addr} {G G' : Hp} {kvs : List (Key × V)} {S : List V} {g : Str → Ci} (h : EntC C G kvs S g) (e : Ex G G') : EntC C G' kvs S g := fun n hn => ⟨fun hs => by
  obtain ⟨v, h1, h2⟩ := (h n hn).1 hs
  exact ⟨v, h1, h2.mono e⟩, (h n hn).2⟩
theorem EntC.put {C : Addr} {G : Hp} {p : Addr} {k1 k2 kvs : List (Key × V)} {S : List V} {g : Str → Ci} {m : Str} {v : V} (hp : G p = some (.dK k1)) (h : EntC C G kvs S g) (hv : CiAt C G v (g m)) : EntC C (upd G p (.dK k2)) (putK kvs (.inr m) v) (S ++ [.str m]) g := fun n hn => by
  rw [valV_put]
  by_cases e : n = m
  · subst e
    rw [if_pos rfl]
    exact ⟨fun _ => ⟨v, rfl, hv.dK hp⟩, fun z => absurd (by simp) z⟩
  · rw [if_neg (fun z => e (key_eq.mp z))]
    refine ⟨fun hs => ?_, fun hs => (h n hn).2 fun z => hs (List.mem_append_left _ z)⟩
    rcases List.mem_append.mp hs with hs | hs
    · obtain ⟨v', h1, h2⟩ := (h n hn).1 hs
      exact ⟨v', h1, h2.dK hp⟩
    · exact absurd (V.str.inj (List.mem_singleton.mp hs)) e
theorem try_put0 {AA : Adr} {b : Addr} {G H : Hp} {v : V} {c : Ci} {R : VK} (hA : At b G H) (hT : Tabs (TT AA) G) (hc : CiAt AA.Circle G v c) (hnc : c.nice)
    (hR : ∀ f G' H', At b G' H' → ExtN G G' → Tabs (TT AA) G' → FoundAt AA.Circle G' f (.yes c) → R f H') : tTry2 AA (fun E H Q => ∀ pd, H pd = none → spBagX 2 (spPut AA 25) [v, .ref pd] (upd H pd (.dK [])) Q E) H R := by
  have hd := hnc.2.2
  refine ⟨fun _ _ _ => False, fun v' H1 => ∃ G2, At b G2 H1 ∧ Ex G G2 ∧ CiAt AA.Circle G2 v' c, fun pd hpd => ⟨rfl, b, _, hA.new hpd, fun G0 g0 hA0 c0 => ?_⟩, fun v' H1 h p H' e hp => ?_, fun cls d H1 h => h.elim⟩
  · have xp := (Ex.new (o := .dK []) (hA.nh hpd)).trans g0
    refine ⟨v, pd, c, fun n => .eye n, rfl, c0, (hc.mono xp).cut, hnc, by omega, ⟨[], cut_dK (g0 _ _ upd_same), fun n hn => .inr ⟨rfl, rfl⟩⟩, fun n hn => nice_eye hn, fun c' hc' v' G' e' hv' u o1 => ?_, fun z hz => ?_⟩
    · rw [putC_none (fun _ _ => rfl) c hnc] at hc'
      cases hc'
      obtain ⟨G2, g2, hA2, x2, _⟩ := bag_use hA0 c0 e' u o1
      exact ⟨G2, hA2, xp.trans g2, hv'.cut.mono x2⟩
    · rw [putC_none (fun _ _ => rfl) c hnc] at hz
      cases hz
  · obtain ⟨G2, hA2, g2, hv'⟩ := h
    obtain ⟨G3, hA3, g3, h3⟩ := hA2.tup e
    exact hR _ G3 H' hA3 (ExtN.of (g2.trans g3)) ((hT.ext g2).ext g3) ⟨p, v', rfl, h3 _ _ hp, hv'.mono g3⟩
theorem KeyN.names {kvs : List (Key × V)} (h : KeyN kvs) : ∃ ns : List Str, keysV kvs = ns.map V.str ∧ ns.length = kvs.length ∧ ∀ n ∈ ns, nm n ∧ V.str n ∈ keysV kvs := by
  induction kvs with
  | nil => exact ⟨[], rfl, rfl, fun n hn => by cases hn⟩
  | cons p r ih =>
    obtain ⟨ns, h1, h2, h3⟩ := ih fun q hq => h q (List.mem_cons_of_mem _ hq)
    obtain ⟨n, e, hn⟩ := h p List.mem_cons_self
    have hk : keysV (p :: r) = V.str n :: keysV r := by
      show kV p.1 :: _ = _
      rw [e]
      rfl
    refine ⟨n :: ns, ?_, congrArg Nat.succ h2, fun m hm => ?_⟩
    · rw [hk, h1]
      rfl
    · rw [hk]
      rcases List.mem_cons.mp hm with rfl | hm
      · exact ⟨hn, List.mem_cons_self⟩
      · exact ⟨(h3 m hm).1, List.mem_cons_of_mem _ (h3 m hm).2⟩
theorem strs_smN {C : Addr} {H : Hp} {n : Nat} {a b : Addr} {xs : List Str} (hl : xs.length ≤ 90000) (ha : H a = some (.lst (xs.map V.str))) (hb : H b = some (.lst (xs.map V.str))) : Sm C H (n + 2) (.ref a) (.ref b) := by
  refine .lst ha hb rfl (by rw [List.length_map]; exact hl) fun i u v e1 e2 => ?_
  rw [e1] at e2
  cases e2
  rw [List.getElem?_map] at e1
  obtain ⟨y, _, rfl⟩ := Option.map_eq_some_iff.mp e1
  exact .sc (.inr (.inr (.inr ⟨_, rfl⟩)))
theorem three_sm {C : Addr} {H : Hp} {n : Nat} {a b : Addr} {x y z u v w : V} (ha : H a = some (.lst [x, y, z])) (hb : H b = some (.lst [u, v, w])) (h1 : Sm C H n x u) (h2 : Sm C H n y v) (h3 : Sm C H n z w) : Sm C H (n + 1) (.ref a) (.ref b) := by
  refine .lst ha hb rfl (by show 3 ≤ 90000; decide) fun i s t e1 e2 => ?_
  match i, e1, e2 with
  | 0, e1, e2 =>
    cases e1
    cases e2
    exact h1
  | 1, e1, e2 =>
    cases e1
    cases e2
    exact h2
  | 2, e1, e2 =>
    cases e1
    cases e2
    exact h3
  | i + 3, e1, e2 => simp at e1
theorem two_sm {C : Addr} {H : Hp} {n : Nat} {a b : Addr} {x y u v : V} (ha : H a = some (.lst [x, y])) (hb : H b = some (.lst [u, v])) (h1 : Sm C H n x u) (h2 : Sm C H n y v) : Sm C H (n + 1) (.ref a) (.ref b) := by
  refine .lst ha hb rfl (by show 2 ≤ 90000; decide) fun i s t e1 e2 => ?_
  match i, e1, e2 with
  | 0, e1, e2 =>
    cases e1
    cases e2
    exact h1
  | 1, e1, e2 =>
    cases e1
    cases e2
    exact h2
  | i + 2, e1, e2 => simp at e1
end Eyes

set_option Elab.async false
set_option linter.all false
set_option maxRecDepth 100000
set_option maxHeartbeats 4000000
namespace Eyes
open PySem PySem.Spec PyProof.Rows L2 Evl TL LamX
/-! ### calls beside the bag -/
theorem fair_nice {k : Bool} {cs : List Ci} (hne : cs ≠ []) (hl : cs.length ≤ 100) (h : ∀ c ∈ cs, c.nice) : Fair k cs := ⟨hne, fun c hc => (h c hc).fine, fun c hc => (h c hc).2.2, by omega⟩
theorem chk_nice {k : Bool} {cs : List Ci} (hne : cs ≠ []) (h : ∀ c ∈ cs, c.nice) {c : Ci} (e : chk (mkC k cs) = .yes c) : c.nice ∧ c = mkC k cs := by
  unfold chk at e
  cases ho : over (mkC k cs) with
  | some z =>
    rw [ho] at e
    cases e
  | none =>
    rw [ho] at e
    cases e
    exact ⟨⟨mkC_norm hne fun c hc => (h c hc).1, (over_none.mp ho).1, (over_none.mp ho).2⟩, rfl⟩
section
variable {K : PySem.W.Frag} {AA : Adr} {b : Addr} {G H : Hp} {Q : VK}
theorem bagX_of {n : Nat} {sp : Sp} {vs : List V} {E : XK} {r : Rs Ci} (hl : vs.length = n) (hA : At b G H)
    (hsp : ∀ G0 Q E, Ex G G0 → Cl (cutH G0) → Ends AA r (cutH G0) Q E → sp vs (cutH G0) Q E)
    (q : ∀ c' v' G' H', r = .yes c' → At b G' H' → Ex G G' → CiAt AA.Circle G' v' c' → Q v' H')
    (qx : ∀ z dd G' H', r = .no z → At b G' H' → Ex G G' → G' dd = some (.xd [("most", .int z.2), ("what", .str z.1)]) → E (.ref AA.TooMany) (some dd) H') : spBagX n sp vs H Q E := by
  refine ⟨hl, b, G, hA, fun G0 g0 hA0 c0 => hsp G0 _ _ g0 c0 ⟨fun c' hc' v' G' e' hv' u o1 => ?_, fun z hz dd G' hdd e' hx u o1 => ?_⟩⟩
  · obtain ⟨G2, g2, hA2, x2, _⟩ := bag_use hA0 c0 e' u o1
    exact q c' v' G2 _ hc' hA2 (g0.trans g2) (hv'.cut.mono x2)
  · obtain ⟨G2, g2, hA2, x2, _⟩ := bag_use hA0 c0 e' u o1
    exact qx z dd G2 _ hz hA2 (g0.trans g2) (x2 _ _ (cut_xd hx))
theorem Reps.cutC {G : Hp} {us : List V} {cs : List Ci} (h : Reps G us (datas cs)) : Reps (cutH G) us (datas cs) := Reps.mono2 (fun _ _ => cut_lst) (fun _ _ => cut_tup) h
theorem checked_call {l : Addr} {us : List V} {k : Bool} {cs : List Ci} (hA : At b G H) (hl : G l = some (.lst us)) (hr : Reps G us (datas cs)) (hc : ∀ c ∈ cs, c.nice) (hne : cs ≠ []) (hn : cs.length ≤ 100) (q : ∀ v' G' H', At b G' H' → Ex G G' → Rep G' v' (rsData (chk (mkC k cs))) → Q v' H') : spBag0 2 (spChecked K) [.str (kindS k), .ref l] H Q (fun _ _ _ => False) := by
  refine ⟨rfl, b, G, hA, fun G0 g0 hA0 c0 => ⟨l, us, k, cs, rfl, sq_of (cut_lst (g0 _ _ hl)), (Reps.mono g0 hr).cutC, hc, hne, few_sizes hc hn, fun v' G' e' hv' u o1 => ?_⟩⟩
  obtain ⟨G2, g2, hA2, x2, _⟩ := bag_use hA0 c0 e' u o1
  exact q v' G2 _ hA2 (g0.trans g2) (Rep.mono x2 (Rep.cut hv'))
theorem why_gen {tl : XK → Hp → VK → Prop} {z : Str × Nat} {R : VK} (hT : Tabs (TT AA) G)
    (body : ∀ E Q, (∀ dd G2 H1, At b G2 H1 → Ex G G2 → G2 dd = some (.xd [("most", .int z.2), ("what", .str z.1)]) → E (.ref AA.TooMany) (some dd) H1) → tl E H Q)
    (hR : ∀ f G' H', At b G' H' → ExtN G G' → Tabs (TT AA) G' → Rep G' f (rsData (.no z)) → R f H') : tWhy2 AA tl H R := by
  refine ⟨fun cls d H1 => ∃ G2 dd, At b G2 H1 ∧ Ex G G2 ∧ cls = .ref AA.TooMany ∧ d = some dd ∧ G2 dd = some (.xd [("most", .int z.2), ("what", .str z.1)]), fun v' H1 => False,
    body _ _ (fun dd G2 H1 h2 h3 h4 => ⟨G2, dd, h2, h3, rfl, rfl, h4⟩), fun v' H1 h => h.elim, fun cls d H1 h => ?_⟩
  obtain ⟨G2, dd, hA2, g2, rfl, rfl, hx⟩ := h
  refine .inr ⟨rfl, dd, _, _, rfl, hA2.ex _ _ hx, fun p1 p2 H' e h1 h2 => ?_⟩
  obtain ⟨G3, hA3, g3, h3⟩ := hA2.tup e
  exact hR _ G3 H' hA3 (ExtN.of (g2.trans g3)) ((hT.ext g2).ext g3) (.tup (h3 _ _ h2) (.cons (.str _) (.cons (.tup (h3 _ _ h1) (.cons (.str _) (.cons (.int _) .nil))) .nil)))
theorem At.growY {b : Addr} {G H H1 : Hp} (h : At b G H) (e : Ex H H1) : ∃ G', At b G' H1 ∧ Ex G G' ∧ (∀ a o, H1 a = some o → (∀ xs, o ≠ .lst xs) → G' a = some o) ∧ ∀ a o, H1 a = some o → H a = none ∨ (∃ o2, G a = some o2) → G' a = some o := by
  obtain ⟨c, ns, i, r, m, n, B⟩ := h
  have hb := e _ _ B.at_
  have hc := e _ _ B.cells
  refine ⟨fun a => if a = b ∨ a = c then none else H1 a, ⟨c, ns, i, r, m, n, if_pos (.inl rfl), if_pos (.inr rfl), fun a u z => ?_, hb, hc, B.ne, B.i0, B.r0, B.m0, B.m1⟩, fun a o z => ?_, fun a o z nl => ?_, fun a o z g => ?_⟩
  · by_cases hc : a = b ∨ a = c
    · have z : (if a = b ∨ a = c then none else H1 a) = some u := z
      rw [if_pos hc] at z
      cases z
    · have z : (if a = b ∨ a = c then none else H1 a) = some u := z
      rw [if_neg hc] at z
      exact z
  · show (if a = b ∨ a = c then none else H1 a) = some o
    rw [if_neg ?_]
    · exact e _ _ (B.ex _ _ z)
    · rintro (rfl | rfl)
      · rw [B.nb] at z
        cases z
      · rw [B.nc] at z
        cases z
  · show (if a = b ∨ a = c then none else H1 a) = some o
    rw [if_neg ?_]
    · exact z
    · rintro (rfl | rfl)
      · rw [hb] at z
        cases z
        exact nl _ rfl
      · rw [hc] at z
        cases z
        exact nl _ rfl
  · show (if a = b ∨ a = c then none else H1 a) = some o
    rw [if_neg ?_]
    · exact z
    · rintro (rfl | rfl)
      · rcases g with g | ⟨o2, g⟩
        · rw [B.at_] at g
          cases g
        · rw [B.nb] at g
          cases g
      · rcases g with g | ⟨o2, g⟩
        · rw [B.cells] at g
          cases g
        · rw [B.nc] at g
          cases g
theorem Tabs.lst {T : List (Addr × Str)} {G : Hp} {p : Addr} {k1 k2 : List V} (hp : G p = some (.lst k1)) (h : Tabs T G) : Tabs T (upd G p (.lst k2)) := by
  have other : ∀ {a : Addr} {o : HO}, G a = some o → (∀ zs, o ≠ .lst zs) → upd G p (.lst k2) a = some o := fun {a o} e n => by
    rw [upd_ne]
    · exact e
    · rintro rfl
      rw [hp] at e
      cases e
      exact n _ rfl
  intro q hq
  obtain ⟨ps, h1, h2, h3⟩ := h q hq
  refine ⟨ps, other h1 (fun _ => nofun), h2, fun pos cv hcv => ?_⟩
  obtain ⟨c', e1, e2⟩ := h3 pos cv hcv
  exact ⟨c', e1, other e2 (fun _ => nofun)⟩
def nw (H H' : Hp) : Hp := fun a => match H a with
  | none => H' a
  | some _ => none
theorem nw_old {H H' : Hp} {a : Addr} {o : HO} (h : H a = some o) : nw H H' a = none := by
  unfold nw
  rw [h]
theorem nw_new {H H' : Hp} {a : Addr} (h : H a = none) : nw H H' a = H' a := by
  unfold nw
  rw [h]
theorem nw_sub {H H' : Hp} : Ex (nw H H') H' := fun a o h => by
  unfold nw at h
  cases z : H a with
  | none =>
    rw [z] at h
    exact h
  | some o2 =>
    rw [z] at h
    cases h
theorem nw_upd {H H' : Hp} {a : Addr} {o o2 : HO} (h : H a = some o) : nw H (upd H' a o2) = nw H H' := by
  funext x
  by_cases e : x = a
  · subst e
    rw [nw_old h, nw_old h]
  · unfold nw
    rw [upd_ne e]
theorem nw_ex {H H1 H2 : Hp} (e : Ex H1 H2) : Ex (nw H H1) (nw H H2) := fun a o h => by
  cases z : H a with
  | none =>
    rw [nw_new z] at h ⊢
    exact e _ _ h
  | some o2 =>
    rw [nw_old z] at h
    cases h
structure spFrS (sp : Sp) (vs : List V) (H : Hp) (Q : VK) (E : XK) : Prop where
  h : spFr sp vs H Q E
theorem Pr.frameS {P : Program} {w : World} {mg : Str → Option Value} {base : Heap} {x : Str} {st : Stmt} {ps : List Str} {k : Nat} {sp : Sp} (G : Pr P w K mg base x st ps k sp) : Pr P w K mg base x st ps k (spFrS sp) := by
  obtain ⟨f, fd, hm, F, hb, R⟩ := Pr.frame G
  exact ⟨f, fd, hm, F, hb, FnOk.pre R (fun _ _ _ _ h => R.len _ _ _ _ h.h) fun vs H Q E o h => h.h⟩
theorem eye_new {H0 : Hp} {t : Str} (ht : nm t) (hs : ∀ a o, H0 a = some o → ∃ o2, H a = some o2) (q : ∀ v H', Ex H H' → CiAt AA.Circle (nw H0 H') v (.eye t) → Q v H') : spFrS (spEye AA.Circle) [.str t] H Q (fun _ _ _ => False) := by
  refine ⟨cutH fun _ => none, fun a o h => ?_, cut_cl (fun a C dx fs g => by cases g), t, rfl, ht, fun v G' e' hv u o1 => ?_⟩
  · rw [cut_none rfl] at h
    cases h
  · have hf : ∀ a, (cutH fun _ => none) a = none := fun a => cut_none rfl
    have c0 : Cl (cutH fun _ => none) := cut_cl (fun a C dx fs g => by cases g)
    obtain ⟨f1, f2, f3, f4, f5⟩ := fr_use (H := H) (fun a o h => by rw [hf] at h; cases h) c0 e' u o1
    refine q v _ f4 (hv.cut.mono fun a o z => ?_)
    have zm := f3 _ _ z
    cases h0 : H0 a with
    | none => rw [nw_new h0]; exact zm
    | some o2 =>
      obtain ⟨o3, h3⟩ := hs _ _ h0
      rw [f5 _ _ h3 (hf a)] at z
      cases z
theorem CisAt.setAt {v : V} {c : Ci} : ∀ {us : List V} {cs : List Ci} (i : Nat), CisAt AA.Circle G us cs → CiAt AA.Circle G v c → CisAt AA.Circle G (us.set i v) (cs.set i c)
  | _, _, _, .nil, _ => .nil
  | _, _, 0, .cons _ h, hv => .cons hv h
  | _, _, i + 1, .cons h1 h, hv => .cons h1 (CisAt.setAt i h hv)
theorem CisAt.exN {v : List V} {c : List Ci} {G' : Hp} (e : ExtN G G') (h : CisAt AA.Circle G v c) : CisAt AA.Circle G' v c := h.mono2 (fun _ _ _ _ z => e _ _ z (fun _ => nofun)) fun _ _ z => e _ _ z (fun _ => nofun)
theorem CisAt.take : ∀ {us : List V} {cs : List Ci} (n : Nat), CisAt AA.Circle G us cs → CisAt AA.Circle G (us.take n) (cs.take n)
  | _, _, 0, _ => by
    rw [List.take_zero, List.take_zero]
    exact .nil
  | _, _, _ + 1, .nil => .nil
  | _, _, n + 1, .cons h1 h => .cons h1 (CisAt.take n h)
theorem chk_self {k : Bool} {ps : List Ci} (h : (Ci.node k ps).nice) : chk (mkC k ps) = .yes (.node k ps) := by
  rw [mkC_self h.1]
  unfold chk
  rw [h.over]
end
end Eyes

set_option Elab.async false
set_option linter.all false
set_option maxRecDepth 100000
set_option maxHeartbeats 4000000
namespace Eyes
open PySem PySem.Spec PyProof.Rows L2 Evl TL
/-! ### slices of texts -/
def okT (z : Str) : Prop := z.length ≤ 16000 ∧ ∀ c ∈ tl z, c < 128
theorem cutS_mid (x : Str) (i m : Nat) : cutS x (some (i : Int)) (some ((i + m : Nat) : Int)) = ⟨(((tl x).drop i).take m).toArray⟩ := by
  refine ext_tl ?_
  show (x.cps.toList.drop _).take _ = ((tl x).drop i).take m
  rw [HT.sIx_nat, HT.sIx_nat]
  have hl : x.cps.toList.length = x.length := Array.length_toList
  rcases Nat.le_total i x.length with h | h
  · rw [Nat.min_eq_left h]
    rcases Nat.le_total (i + m) x.length with g | g
    · rw [Nat.min_eq_left g, Nat.add_sub_cancel_left]
    · rw [Nat.min_eq_right g, List.take_of_length_le (by rw [List.length_drop]; omega)]
      show _ = (x.cps.toList.drop i).take m
      rw [List.take_of_length_le (by rw [List.length_drop]; omega)]
  · rw [Nat.min_eq_right h, Nat.min_eq_right (by omega)]
    show _ = (x.cps.toList.drop i).take m
    rw [List.drop_of_length_le (by omega), List.drop_of_length_le (i := i) (by omega), List.take_nil, List.take_nil]
def one (x : Option Nat) : Str := ⟨(x.toList).toArray⟩
theorem take_one_drop (l : List Nat) (i : Nat) : (l.drop i).take 1 = (l[i]?).toList := by
  rw [← List.head?_drop]
  cases l.drop i <;> rfl
theorem cutS_one (x : Str) (i : Nat) : cutS x (some (i : Int)) (some ((i : Int) + 1)) = one ((tl x)[i]?) := by
  rw [show ((i : Int) + 1) = ((i + 1 : Nat) : Int) by omega, cutS_mid, take_one_drop]
  rfl
theorem one_eq (x : Option Nat) (c : Nat) : decide (V.str (one x) = V.str ⟨#[c]⟩) = decide (x = some c) := by
  cases x with
  | none => exact (decide_eq_false fun h => by injection h with h; injection h with h; cases h).trans (decide_eq_false (by simp)).symm
  | some d =>
    by_cases e : d = c
    · subst e
      exact (decide_eq_true rfl).trans (decide_eq_true rfl).symm
    · refine (decide_eq_false fun h => e ?_).trans (decide_eq_false fun h => e (Option.some.inj h)).symm
      have h2 := congrArg tl (V.str.inj h)
      have h2 : [d] = [c] := h2
      exact (List.cons.inj h2).1
theorem tl_ofList (l : List Nat) : tl ⟨l.toArray⟩ = l := rfl
/-! ### the name at a place -/
theorem nm_take {r : List Nat} {m : Nat} (h : nm ⟨(r.take m).toArray⟩) (hm : m ≤ 6) (hn : ∀ k : Nat, m < k → k ≤ 6 → ¬ nm ⟨(r.take k).toArray⟩) : nmAt r = r.take m := by
  have hL : ∀ x ∈ r.take m, isL x = true := fun x hx => isL_iff.mpr (h.2.2 x hx)
  have h1 : 1 ≤ (r.take m).length := h.1
  have e : r = r.take m ++ r.drop m := (List.take_append_drop _ _).symm
  have hw : r.takeWhile isL = r.take m ++ (r.drop m).takeWhile isL := by
    conv => lhs; rw [e]
    rw [List.takeWhile_append_of_pos hL]
  unfold nmAt
  rw [hw]
  by_cases h6 : m = 6
  · subst h6
    by_cases hr : 6 ≤ r.length
    · have hl : (r.take 6).length = 6 := by rw [List.length_take]; omega
      rw [List.take_append_of_le_length (by omega), List.take_of_length_le (by omega)]
    · have hd : r.drop 6 = [] := List.drop_of_length_le (by omega)
      rw [hd]
      show (r.take 6 ++ []).take 6 = _
      rw [List.append_nil, List.take_of_length_le (by rw [List.length_take]; omega)]
  · have hx := hn (m + 1) (by omega) (by omega)
    have hd : (r.drop m).takeWhile isL = [] := by
      cases hdm : r.drop m with
      | nil => rfl
      | cons x q =>
        have ht : r.take (m + 1) = r.take m ++ [x] := by
          rw [List.take_add_one, ← List.head?_drop, hdm]
          rfl
        have hxl : ¬ isL x = true := fun hx2 => hx ⟨by
          show 1 ≤ (r.take (m + 1)).length
          rw [ht, List.length_append]
          omega, by
          show (r.take (m + 1)).length ≤ 6
          rw [List.length_take]
          omega, fun y hy => by
          have hy : y ∈ r.take (m + 1) := hy
          rw [ht] at hy
          rcases List.mem_append.mp hy with hy | hy
          · exact h.2.2 y hy
          · rw [List.mem_singleton.mp hy]
            exact isL_iff.mp hx2⟩
        rw [List.takeWhile_cons_of_neg hxl]
    rw [hd, List.append_nil, List.take_of_length_le (by rw [List.length_take]; omega)]
theorem nm_none {r : List Nat} (hn : ∀ k : Nat, 0 < k → k ≤ 6 → ¬ nm ⟨(r.take k).toArray⟩) : nmAt r = [] := by
  unfold nmAt
  cases r with
  | nil => rfl
  | cons x q =>
    have h := hn 1 (by decide) (by decide)
    have hx : ¬ isL x = true := fun hx => h ⟨by show 1 ≤ 1; decide, by show 1 ≤ 6; decide, fun y hy => by
      have hy : y ∈ [x] := hy
      rw [List.mem_singleton.mp hy]
      exact isL_iff.mp hx⟩
    rw [List.takeWhile_cons_of_neg hx]
    rfl
theorem inV_two (s : Str) : inV (.str s) [.str "&", .str "|"] = (decide (V.str s = V.str "&") || decide (V.str s = V.str "|")) := by
  show (eqV (.str "&") (.str s) || (eqV (.str "|") (.str s) || false)) = _
  rw [Bool.or_false]
  have h : ∀ a : Str, eqV (.str a) (.str s) = decide (V.str s = V.str a) := fun a => by
    show decide _ = decide _
    by_cases e : a = s
    · subst e
      exact (decide_eq_true rfl).trans (decide_eq_true rfl).symm
    · exact (decide_eq_false e).trans (decide_eq_false fun g => e (V.str.inj g).symm).symm
  rw [h, h]
def spNameAt (K : PySem.W.Frag) : Sp := fun vs H Q _ => ∃ (z : Str) (i : Nat), vs = [.str z, .int i] ∧ okT z ∧ ∀ H', Ex H H' → Q (.str ⟨(nmAt ((tl z).drop i)).toArray⟩) H'
def BadT (AA : Adr) (H : Hp) (E : XK) (p : Int) : Prop := ∀ d H', H d = none → Ex H H' → H' d = some (.xd [("at", .int p)]) → E (.ref AA.InvalidText) (some d) H'
theorem BadT.mono {AA : Adr} {H H' : Hp} {E : XK} {p : Int} (h : BadT AA H E p) (e : Ex H H') : BadT AA H' E p := fun d H2 hd e2 hx => h d H2 (fresh_back e hd) (e.trans e2) hx
def sgS : Bool → Str | true => "&" | false => "|"
theorem sgS_one (k : Bool) : sgS k = ⟨#[sgnN k]⟩ := by cases k <;> rfl
def spSgn (AA : Adr) : Sp := fun vs H Q E => ∃ (z : Str) (j : Nat), vs = [.str z, .int j] ∧ okT z ∧ (∀ k, signR (tl z) j = some k → ∀ H', Ex H H' → Q (.str (sgS k)) H') ∧ (signR (tl z) j = none → BadT AA H E j)
def spChk (AA : Adr) : Sp := fun vs H Q E => ∃ (z : Str) (j : Nat) (k : Bool), vs = [.str z, .int j, .str (sgS k)] ∧ okT z ∧ ((tl z)[j]? = some (sgnN k) → (tl z)[j + 1]? = some 32 → ∀ H', Ex H H' → Q .non H') ∧ (¬ (tl z)[j]? = some (sgnN k) → BadT AA H E j) ∧ ((tl z)[j]? = some (sgnN k) → ¬ (tl z)[j + 1]? = some 32 → BadT AA H E (j + 1 : Nat))
section
variable {P : Program} {w : World} {K : PySem.W.Frag} {mg : Str → Option Value} {base : Heap} {AA : Adr}
theorem ok_InvalidText___init (T : Txt K mg AA) {f : Addr} {fd : FuncData} (F : Fun K "__init__" "InvalidText.__init__" s_InvalidText___init f fd) (hb : Binds K fd p_InvalidText___init []) : FnOk P w K mg base CX0 1 f fd p_InvalidText___init (spErr1 AA.InvalidText "at") :=
  F.ok sc_InvalidText___init (fun vs H Q E h => by
    obtain ⟨a, v, rfl, _⟩ := h
    rfl) fun cdv A outer s H vs Q E hr h => by
    obtain ⟨a, v, rfl, ha, q⟩ := h
    refine ⟨_, (pss_one (ps_ost (pv 0) (pv 1))), ?_⟩
    exact ⟨v, rfl, .ref a, rfl, a, AA.InvalidText, rfl, T.e_InvalidText.oex, T.a_InvalidText_at, .inl ⟨ha, fun dx hd hne => q dx hd hne⟩⟩
theorem ok_name_at (T : Txt K mg AA) : Pr P w K mg base "name_at" s_name_at p_name_at 2 (spNameAt K) := by
  refine pr_mk T.f_name_at sc_name_at (fun vs H Q E h => ?_) (fun f cdv A outer s H vs Q E hr h => ?_)
  · obtain ⟨z, i, rfl, _⟩ := h
    rfl
  · obtain ⟨z, i, rfl, hz, q⟩ := h
    refine ⟨_, (pss_cons (ps_for PassesOwn.never rfl (pi_range3 (by rfl) T.n_range (pa_cons (pgI T.m_MOST_LETTERS) (pa_cons pe_int (pa_cons (pe_un un_neg pe_int) pa_nil)))) (pg_name (i := 2) sc_name_at.nd rfl (.inl rfl))
      (pss_one (ps_if (pt_val (pcall (ok_is_name T) hr (pa_cons (pe_slice sl_str (pv 0) (po_some (pv 1)) (po_some (pe_op op_add (pv 1) (pv 2)))) pa_nil)))
      (pss_one (ps_ret (pe_slice sl_str (pv 0) (po_some (pv 1)) (po_some (pe_op op_add (pv 1) (pv 2))))))
      pss_nil)))
      (pss_one (ps_ret pe_str))), ?_⟩
    refine ⟨1, rfl, 6, 0, -1, 6, rfl, ⟨by decide, by decide, by decide, by decide⟩, ?_⟩
    refine for_rangeC (lo := 6) (c := -1) (n := 6) (fun t σ H' => ∃ y, σ = [some (.str z), some (.int (i : Int)), y] ∧ Ex H H' ∧ ∀ k : Nat, 6 - t < k → k ≤ 6 → ¬ nm ⟨(((tl z).drop i).take k).toArray⟩) ⟨none, rfl, Ex.refl _, fun k h1 h2 => by omega⟩ (fun t σ H' ht hp => ?_) (fun σ H' hp => ?_)
    · obtain ⟨y, rfl, e1, hn⟩ := hp
      have em : (6 : Int) + (t : Int) * -1 = ((6 - t : Nat) : Int) := by omega
      have ec : cutS z (some (i : Int)) (some ((i : Int) + (6 + (t : Int) * -1))) = ⟨(((tl z).drop i).take (6 - t)).toArray⟩ := by
        rw [em, show ((i : Int) + ((6 - t : Nat) : Int)) = ((i + (6 - t) : Nat) : Int) by omega, cutS_mid]
      refine ⟨_, rfl, _, rfl, _, rfl, _, rfl, _, rfl, _, _, rfl, rfl, _, rfl, z, rfl, sz_of (by have := hz.1; omega), ?_⟩
      rw [ec]
      refine ⟨_, .s _, rfl, ⟨rfl, ?_, ?_⟩, fun H1 e2 => ⟨_, rfl, ite2 (fun hb => ?_) (fun hb => ?_)⟩⟩
      · show (((tl z).drop i).take (6 - t)).length ≤ 1000
        rw [List.length_take]
        omega
      · intro c hc
        exact hz.2 c (List.mem_of_mem_drop (List.mem_of_mem_take hc))
      · have hnm := name_nm hb
        refine ⟨_, rfl, _, rfl, _, rfl, _, rfl, _, rfl, _, _, rfl, rfl, _, rfl, z, rfl, sz_of (by have := hz.1; omega), ?_⟩
        rw [ec]
        have := nm_take hnm (by omega) hn
        rw [← this]
        exact q _ (e1.trans e2)
      · refine ⟨_, rfl, e1.trans e2, fun k h1 h2 hk => ?_⟩
        by_cases hk2 : k = 6 - t
        · subst hk2
          exact hb (nm_name hk)
        · exact hn k (by omega) h2 hk
    · obtain ⟨y, rfl, e1, hn⟩ := hp
      have := nm_none (r := (tl z).drop i) fun k h1 h2 => hn k (by omega) h2
      rw [this] at q
      exact q _ e1
theorem ok_read_sign (T : Txt K mg AA) : PrX P w K mg base "read_sign" s_read_sign p_read_sign 3 (spSgn AA) := by
  refine prx_mk T.f_read_sign sc_read_sign (fun vs H Q E h => ?_) (fun f cdv A outer s H vs Q E hr h tk => ?_)
  · obtain ⟨z, i, rfl, _⟩ := h
    rfl
  · obtain ⟨z, j, rfl, hz, q, qx⟩ := h
    refine ⟨_, (pss_cons (ps_if (pt_cmpR (op_notIn_seqK (K := K) rfl) (pe_slice sl_str (pv 0) (po_some (pv 1)) (po_some (pe_op op_add (pv 1) pe_int))) (pe_tup (pa_cons pe_str (pa_cons pe_str pa_nil))) (by rfl))
      (pss_one (ps_raise1 T.e_InvalidText (fun _ _ F b => ok_InvalidText___init T F b) rfl tk hr (pa_cons (pv 1) pa_nil)))
      pss_nil)
      (pss_one (ps_ret (pe_ix ix_str (pv 0) (pv 1) (fun _ _ => rfl))))), ?_⟩
    have h1 : (tl z).length = z.length := (len_tl z).symm
    refine ⟨_, rfl, _, rfl, _, rfl, _, rfl, _, _, rfl, rfl, _, rfl, z, rfl, sz_of (by have := hz.1; omega), by show 2 ≤ sizeLine; decide, fun p hp => ?_⟩
    rw [cutS_one]
    refine ⟨p, _, rfl, .inr (st_of upd_same), rfl, rfl, _, rfl, ?_⟩
    show if (!inV (V.str (one (tl z)[j]?)) [V.str "&", V.str "|"]) = true then _ else _
    rw [inV_two, show V.str (Str.ofString "&") = V.str ⟨#[38]⟩ from rfl, show V.str (Str.ofString "|") = V.str ⟨#[124]⟩ from rfl, one_eq, one_eq]
    unfold signR at q qx
    by_cases h38 : (tl z)[j]? = some 38
    · rw [decide_eq_true h38]
      rw [if_pos h38] at q
      have hj : j < z.cps.toList.length := (List.getElem?_eq_some_iff.mp h38).1
      refine iteF ?_
      exact ⟨_, rfl, _, rfl, z, j, 38, rfl, rfl, sz_of (by have := hz.1; omega), at_of' (by omega) h38, q true rfl _ (Ex.new hp)⟩
    · rw [decide_eq_false h38, Bool.false_or]
      rw [if_neg h38] at q qx
      by_cases h124 : (tl z)[j]? = some 124
      · rw [decide_eq_true h124]
        rw [if_pos h124] at q
        refine iteF ?_
        exact ⟨_, rfl, _, rfl, z, j, 124, rfl, rfl, sz_of (by have := hz.1; omega), at_of' (by omega) h124, q false rfl _ (Ex.new hp)⟩
      · rw [decide_eq_false h124]
        rw [if_neg h124] at qx
        refine iteT ?_
        exact ⟨_, rfl, raise1_by fun d hd => qx rfl d _ (fresh_back (Ex.new hp) hd) ((Ex.new hp).trans (Ex.new hd)) upd_same⟩
theorem ok_check_sign (T : Txt K mg AA) : PrX P w K mg base "check_sign" s_check_sign p_check_sign 3 (spChk AA) := by
  refine prx_mk T.f_check_sign sc_check_sign (fun vs H Q E h => ?_) (fun f cdv A outer s H vs Q E hr h tk => ?_)
  · obtain ⟨z, i, k, rfl, _⟩ := h
    rfl
  · obtain ⟨z, j, k, rfl, hz, q, q1, q2⟩ := h
    refine ⟨_, (pss_cons (ps_if (pt_cmpR op_ne (pe_slice sl_str (pv 0) (po_some (pv 1)) (po_some (pe_op op_add (pv 1) pe_int))) (pv 2) (nomark _))
      (pss_one (ps_raise1 T.e_InvalidText (fun _ _ F b => ok_InvalidText___init T F b) rfl tk hr (pa_cons (pv 1) pa_nil)))
      pss_nil)
      (pss_one (ps_if (pt_cmpR op_ne (pe_slice sl_str (pv 0) (po_some (pe_op op_add (pv 1) pe_int)) (po_some (pe_op op_add (pv 1) pe_int))) pe_str (nomark _))
      (pss_one (ps_raise1 T.e_InvalidText (fun _ _ F b => ok_InvalidText___init T F b) rfl tk hr (pa_cons (pe_op op_add (pv 1) pe_int) pa_nil)))
      pss_nil))), ?_⟩
    refine ⟨_, rfl, _, rfl, _, rfl, _, rfl, _, _, rfl, rfl, _, rfl, z, rfl, sz_of (by have := hz.1; omega), ?_⟩
    rw [cutS_one]
    refine ⟨_, rfl, rfl, _, rfl, ?_⟩
    show if (!decide (V.str (one (tl z)[j]?) = V.str (sgS k))) = true then _ else _
    rw [sgS_one, one_eq]
    by_cases h1 : (tl z)[j]? = some (sgnN k)
    · rw [decide_eq_true h1]
      refine iteF ?_
      refine ⟨_, rfl, _, rfl, _, _, rfl, rfl, _, rfl, _, rfl, _, _, rfl, rfl, _, rfl, z, rfl, sz_of (by have := hz.1; omega), rfl, _, rfl, ?_⟩
      have e : cutS z (some ((j : Int) + 1)) (some ((j : Int) + 2)) = one ((tl z)[j + 1]?) := by
        rw [show ((j : Int) + 2) = (((j + 1 : Nat) : Int) + 1) by omega, show ((j : Int) + 1) = ((j + 1 : Nat) : Int) by omega, cutS_one]
      rw [e]
      show if (!decide (V.str (one (tl z)[j + 1]?) = V.str ⟨#[32]⟩)) = true then _ else _
      rw [one_eq]
      by_cases h2 : (tl z)[j + 1]? = some 32
      · rw [decide_eq_true h2]
        exact iteF (q h1 h2 _ (Ex.refl _))
      · rw [decide_eq_false h2]
        refine iteT ⟨_, rfl, _, _, rfl, rfl, ?_⟩
        have q2 := q2 h1 h2
        rw [show ((j + 1 : Nat) : Int) = (j : Int) + 1 by omega] at q2
        exact raise1_by fun d hd => q2 d _ hd (Ex.new hd) upd_same
    · rw [decide_eq_false h1]
      exact iteT ⟨_, rfl, raise1_by fun d hd => q1 h1 d _ hd (Ex.new hd) upd_same⟩
end
end Eyes

set_option Elab.async false
set_option linter.all false
set_option maxRecDepth 100000
set_option maxHeartbeats 4000000
namespace Eyes
open PySem PySem.Spec PyProof.Rows L2 Evl TL
mutual
inductive TrAt (H : Hp) : V → Ci → Prop
  | eye {n : Str} : TrAt H (.str n) (.eye n)
  | node {p l : Addr} {k : Bool} {us : List V} {cs : List Ci} : H p = some (.tup [.str (sgS k), .ref l]) → H l = some (.lst us) → TrsAt H us cs → TrAt H (.ref p) (.node k cs)
inductive TrsAt (H : Hp) : List V → List Ci → Prop
  | nil : TrsAt H [] []
  | cons {v : V} {c : Ci} {us : List V} {cs : List Ci} : TrAt H v c → TrsAt H us cs → TrsAt H (v :: us) (c :: cs)
end
mutual
theorem TrAt.mono2 {H H' : Hp} (e1 : ∀ a xs, H a = some (.lst xs) → H' a = some (.lst xs)) (e2 : ∀ a xs, H a = some (.tup xs) → H' a = some (.tup xs)) : ∀ {v : V} {c : Ci}, TrAt H v c → TrAt H' v c
  | _, _, .eye => .eye
  | _, _, .node h1 h2 h3 => .node (e2 _ _ h1) (e1 _ _ h2) (TrsAt.mono2 e1 e2 h3)
theorem TrsAt.mono2 {H H' : Hp} (e1 : ∀ a xs, H a = some (.lst xs) → H' a = some (.lst xs)) (e2 : ∀ a xs, H a = some (.tup xs) → H' a = some (.tup xs)) : ∀ {vs : List V} {cs : List Ci}, TrsAt H vs cs → TrsAt H' vs cs
  | _, _, .nil => .nil
  | _, _, .cons h1 h2 => .cons (TrAt.mono2 e1 e2 h1) (TrsAt.mono2 e1 e2 h2)
end
theorem TrAt.mono {H H' : Hp} (e : Ex H H') {v : V} {c : Ci} (h : TrAt H v c) : TrAt H' v c := h.mono2 (fun _ _ => e _ _) fun _ _ => e _ _
theorem TrsAt.mono {H H' : Hp} (e : Ex H H') {v : List V} {c : List Ci} (h : TrsAt H v c) : TrsAt H' v c := h.mono2 (fun _ _ => e _ _) fun _ _ => e _ _
theorem TrAt.cut {H : Hp} {v : V} {c : Ci} (h : TrAt H v c) : TrAt (cutH H) v c := h.mono2 (fun _ _ => cut_lst) fun _ _ => cut_tup
theorem TrsAt.length {H : Hp} : ∀ {vs : List V} {cs : List Ci}, TrsAt H vs cs → vs.length = cs.length
  | _, _, .nil => rfl
  | _, _, .cons _ h => congrArg (· + 1) h.length
theorem TrsAt.snoc {H : Hp} {v : V} {c : Ci} (hv : TrAt H v c) : ∀ {vs : List V} {cs : List Ci}, TrsAt H vs cs → TrsAt H (vs ++ [v]) (cs ++ [c])
  | _, _, .nil => .cons hv .nil
  | _, _, .cons h1 h2 => .cons h1 (TrsAt.snoc hv h2)
theorem TrsAt.get {H : Hp} : ∀ {vs : List V} {cs : List Ci} {i : Nat} {v : V}, TrsAt H vs cs → vs[i]? = some v → ∃ c, cs[i]? = some c ∧ TrAt H v c
  | _, _, 0, _, .cons h _, e => by
    cases e
    exact ⟨_, rfl, h⟩
  | _ :: _, _ :: _, i + 1, _, .cons _ h, e => by
    rw [List.getElem?_cons_succ] at e ⊢
    exact TrsAt.get h e
def nwx (H : Hp) (l : Addr) (H' : Hp) : Hp := fun a => if a = l then none else nw H H' a
theorem nwx_upd {H H' : Hp} {l : Addr} {o : HO} : nwx H l (upd H' l o) = nwx H l H' := by
  funext a
  unfold nwx
  by_cases e : a = l
  · rw [if_pos e, if_pos e]
  · rw [if_neg e, if_neg e]
    unfold nw
    rw [upd_ne e]
theorem nwx_ex {H H1 H2 : Hp} {l : Addr} (e : Ex H1 H2) : Ex (nwx H l H1) (nwx H l H2) := fun a o h => by
  unfold nwx at h ⊢
  by_cases z : a = l
  · rw [if_pos z] at h
    cases h
  · rw [if_neg z] at h ⊢
    exact nw_ex e _ _ h
theorem nwx_of {H H1 H2 : Hp} {l : Addr} {o : HO} (hl : H1 l = some o) (hs : Ex H H1) : Ex (nw H1 H2) (nwx H l H2) := fun a u h => by
  have z1 : H1 a = none := by
    cases g : H1 a with
    | none => rfl
    | some o2 =>
      rw [nw_old g] at h
      cases h
  have hne : a ≠ l := fun e => by
    rw [e, hl] at z1
    cases z1
  have z0 : H a = none := fresh_back hs z1
  unfold nwx
  rw [if_neg hne, nw_new z0]
  rw [nw_new z1] at h
  exact h
theorem nwx_sub {H H' : Hp} {l : Addr} : Ex (nwx H l H') (nw H H') := fun a o h => by
  unfold nwx at h
  by_cases z : a = l
  · rw [if_pos z] at h
    cases h
  · rw [if_neg z] at h
    exact h
def spItem (AA : Adr) (d : Nat) : Sp := fun vs H Q E => ∃ (z : Str) (i : Nat), vs = [.str z, .int i, .int ((20 - d : Nat) : Int)] ∧ d ≤ 20 ∧ okT z ∧ (∀ c j, itemR (tl z) d i = .ok c j → ∀ v p H', Ex H H' → H' p = some (.tup [v, .int (j : Nat)]) → TrAt (nw H H') v c → Q (.ref p) H') ∧ ∀ e, itemR (tl z) d i = .bad e → BadT AA H E (e : Nat)
def spRow (AA : Adr) (d : Nat) : Sp := fun vs H Q E => ∃ (z : Str) (i : Nat), vs = [.str z, .int i, .int ((20 - d : Nat) : Int)] ∧ d ≤ 20 ∧ okT z ∧ (∀ c j, rowR (itemR (tl z) d) (tl z) i = .ok c j → ∀ v p H', Ex H H' → H' p = some (.tup [v, .int (j : Nat)]) → TrAt (nw H H') v c → Q (.ref p) H') ∧ ∀ e, rowR (itemR (tl z) d) (tl z) i = .bad e → BadT AA H E (e : Nat)
def spRowO (AA : Adr) : Nat → Sp
  | 0 => fun _ _ _ _ => False
  | d + 1 => spRow AA d
theorem nmAt_len (r : List Nat) : (nmAt r).length ≤ 6 := by
  unfold nmAt
  rw [List.length_take]
  omega
theorem item_adv {xs : List Nat} : ∀ {d i : Nat} {c : Ci} {j : Nat}, itemR xs d i = .ok c j → i < j := by
  have hname : ∀ {i : Nat} {c : Ci} {j : Nat}, nameR xs i = .ok c j → i < j := fun {i c j} h => by
    unfold nameR at h
    by_cases e : nmAt (xs.drop i) = []
    · rw [if_pos e] at h
      cases h
    · rw [if_neg e] at h
      cases h
      have := List.length_pos_iff.mpr e
      omega
  intro d
  induction d with
  | zero => exact hname
  | succ d ih =>
    intro i c j h
    unfold itemR at h
    by_cases e : xs[i]? = some 40
    · rw [if_pos e] at h
      cases hr : rowR (itemR xs d) xs (i + 1) with
      | bad p =>
        rw [hr] at h
        cases h
      | ok c2 j2 =>
        rw [hr] at h
        have h : (if xs[j2]? = some 41 then Got.ok c2 (j2 + 1) else Got.bad j2) = Got.ok c j := h
        by_cases e2 : xs[j2]? = some 41
        · rw [if_pos e2] at h
          cases h
          have hm : ∀ (k : Bool) (f : Nat) (acc : List Ci) (a : Nat) (cs : List Ci) (b : Nat), moreR (itemR xs d) xs k f acc a = .ok cs b → a ≤ b := by
            intro k f
            induction f with
            | zero =>
              intro acc a cs b h
              cases h
              exact Nat.le_refl _
            | succ f ihf =>
              intro acc a cs b h
              unfold moreR at h
              split at h
              · split at h
                · split at h
                  · cases hi : itemR xs d (a + 3) with
                    | bad p =>
                      rw [hi] at h
                      cases h
                    | ok c3 j3 =>
                      rw [hi] at h
                      have := ihf _ _ _ _ h
                      have := ih hi
                      omega
                  · cases h
                · cases h
              · cases h
                exact Nat.le_refl _
          have : i + 1 ≤ j2 := by
            unfold rowR at hr
            cases hi : itemR xs d (i + 1) with
            | bad p =>
              rw [hi] at hr
              cases hr
            | ok c3 j3 =>
              rw [hi] at hr
              have h3 := ih hi
              have hr : (if xs[j3]? = some 32 then (match signR xs (j3 + 1) with | none => Got.bad (j3 + 1) | some k => finR k (moreR (itemR xs d) xs k (xs.length + 1) [c3] j3)) else Got.ok c3 j3) = Got.ok c j2 := hr
              by_cases e4 : xs[j3]? = some 32
              · rw [if_pos e4] at hr
                cases hs : signR xs (j3 + 1) with
                | none =>
                  rw [hs] at hr
                  cases hr
                | some k =>
                  rw [hs] at hr
                  have hr : finR k (moreR (itemR xs d) xs k (xs.length + 1) [c3] j3) = Got.ok c j2 := hr
                  cases hmo : moreR (itemR xs d) xs k (xs.length + 1) [c3] j3 with
                  | bad p =>
                    rw [hmo] at hr
                    cases hr
                  | ok cs b =>
                    rw [hmo] at hr
                    cases hr
                    have := hm _ _ _ _ _ _ hmo
                    omega
              · rw [if_neg e4] at hr
                cases hr
                omega
          omega
        · rw [if_neg e2] at h
          cases h
    · rw [if_neg e] at h
      exact hname h
def stepN (n : Nat) : L2.St → Hp → Nat := fun σ _ => match σ with
  | [_, _, _, _, some (.int e), _, _] => n + 1 - e.toNat
  | _ => 0
section
variable {P : Program} {w : World} {K : PySem.W.Frag} {mg : Str → Option Value} {base : Heap} {AA : Adr}
theorem item_of (T : Txt K mg AA) {d L : Nat} (hL : 2 ≤ L) (G : PrX P w K mg base "read_row" s_read_row p_read_row L (spRowO AA d)) : PrX P w K mg base "read_item" s_read_item p_read_item (L + 1) (spItem AA d) := by
  refine prx_mk T.f_read_item sc_read_item (fun vs H Q E h => ?_) (fun f cdv A outer s H vs Q E hr h tk => ?_)
  · obtain ⟨z, i, rfl, _⟩ := h
    rfl
  · obtain ⟨z, i, rfl, hd, hz, q, qx⟩ := h
    refine ⟨_, (pss_cons (ps_if (PW.pt (pw_and (pt_cmpR op_eq (pe_slice sl_str (pv 0) (po_some (pv 1)) (po_some (pe_op op_add (pv 1) pe_int))) pe_str (nomark _)) (pw_and1 (pt_cmpR op_lt (pv 2) (pgI T.m_MOST_OPEN) (nomark _)))))
      (pss_cons (ps_asg (pcallX G hr tk (pa_cons (pv 0) (pa_cons (pe_op op_add (pv 1) pe_int) (pa_cons (pe_op op_add (pv 2) pe_int) pa_nil)))) (pg_tup (by rfl) (pgs_cons (pg_name (i := 3) sc_read_item.nd rfl (.inl rfl)) (pgs_cons (pg_name (i := 4) sc_read_item.nd rfl (.inl rfl)) pgs_nil))))
      (pss_cons (ps_if (pt_cmpR op_ne (pe_slice sl_str (pv 0) (po_some (pv 4)) (po_some (pe_op op_add (pv 4) pe_int))) pe_str (nomark _))
      (pss_one (ps_raise1 T.e_InvalidText (fun _ _ F b => ok_InvalidText___init T F b) rfl tk hr (pa_cons (pv 4) pa_nil)))
      pss_nil)
      (pss_one (ps_ret (pe_tup (pa_cons (pv 3) (pa_cons (pe_op op_add (pv 4) pe_int) pa_nil)))))))
      pss_nil)
      (pss_cons (ps_set (i := 5) sc_read_item.nd rfl (.inl rfl) (pcall (ok_name_at T) hr (pa_cons (pv 0) (pa_cons (pv 1) pa_nil))))
      (pss_cons (ps_if (pt_cmpR op_eq (pv 5) pe_str (nomark _))
      (pss_one (ps_raise1 T.e_InvalidText (fun _ _ F b => ok_InvalidText___init T F b) rfl tk hr (pa_cons (pv 1) pa_nil)))
      pss_nil)
      (pss_one (ps_ret (pe_tup (pa_cons (pv 5) (pa_cons (pe_op op_add (pv 1) (pe_callB call_len_str (by rfl) T.n_len PySem.boot_len (pa_cons (pv 5) pa_nil))) pa_nil)))))))), ?_⟩
    have h16 := hz.1
    refine ⟨_, rfl, _, rfl, _, rfl, _, rfl, _, _, rfl, rfl, _, rfl, z, rfl, sz_of (by omega), rfl, _, rfl, ?_⟩
    rw [cutS_one]
    show if decide (V.str (one (tl z)[i]?) = V.str ⟨#[40]⟩) = true then _ else _
    rw [one_eq]
    by_cases hc : (tl z)[i]? = some 40 ∧ 0 < d
    · obtain ⟨h40, hd0⟩ := hc
      cases d with
      | zero => exact absurd hd0 (by decide)
      | succ d =>
        rw [decide_eq_true h40]
        refine iteT ⟨_, rfl, _, _, rfl, rfl, _, rfl, ?_⟩
        have hlt : decide (((20 - (d + 1) : Nat) : Int) < 20) = true := decide_eq_true (by omega)
        rw [hlt]
        refine iteT ?_
        have hun : itemR (tl z) (d + 1) i = match rowR (itemR (tl z) d) (tl z) (i + 1) with
            | .bad p => .bad p
            | .ok c j => if (tl z)[j]? = some 41 then .ok c (j + 1) else .bad j := by
          conv => lhs; unfold itemR
          rw [if_pos h40]
          try rfl
        rw [hun] at q qx
        refine ⟨_, rfl, _, rfl, _, _, rfl, rfl, _, rfl, _, _, rfl, rfl, z, i + 1, ?_, by omega, hz, fun c j hcj v p H1 e1 h1 ht => ?_, fun e he => ?_⟩
        · show [V.str z, V.int ((i : Int) + 1), V.int (((20 - (d + 1) : Nat) : Int) + 1)] = _
          rw [show (((20 - (d + 1) : Nat) : Int) + 1) = ((20 - d : Nat) : Int) by omega]
          rfl
        · rw [hcj] at q qx
          refine ⟨p, _, rfl, st_of h1, rfl, _, _, rfl, _, _, rfl, rfl, ?_⟩
          refine ⟨_, rfl, _, rfl, _, rfl, _, rfl, _, _, rfl, rfl, _, rfl, z, rfl, sz_of (by omega), rfl, _, rfl, ?_⟩
          rw [cutS_one]
          show if (!decide (V.str (one (tl z)[j]?) = V.str ⟨#[41]⟩)) = true then _ else _
          rw [one_eq]
          by_cases h41 : (tl z)[j]? = some 41
          · rw [decide_eq_true h41]
            refine iteF ⟨_, rfl, _, rfl, _, _, rfl, rfl, by show 2 ≤ sizeLine; decide, fun p2 hp2 => ?_⟩
            exact q c (j + 1) (if_pos h41) v p2 _ (e1.trans (Ex.new hp2)) upd_same (ht.mono (nw_ex (Ex.new hp2)))
          · rw [decide_eq_false h41]
            refine iteT ⟨_, rfl, raise1_by fun dd hd => ?_⟩
            exact qx j (if_neg h41) dd _ (fresh_back e1 hd) (e1.trans (Ex.new hd)) upd_same
        · rw [he] at qx
          exact qx e rfl
    · have hn : itemR (tl z) d i = nameR (tl z) i := by
        cases d with
        | zero => rfl
        | succ d =>
          conv => lhs; unfold itemR
          rw [if_neg fun h => hc ⟨h, Nat.succ_pos _⟩]
      rw [hn] at q qx
      unfold nameR at q qx
      by_cases h40 : (tl z)[i]? = some 40
      case' pos =>
        have hd0 : d = 0 := by
          have : ¬ 0 < d := fun h => hc ⟨h40, h⟩
          omega
        subst hd0
        rw [decide_eq_true h40]
        refine iteT ⟨_, rfl, _, _, rfl, rfl, _, rfl, iteF ?_⟩
      case' neg =>
        rw [decide_eq_false h40]
        refine iteF (iteF ?_)
      all_goals
        refine ⟨_, rfl, _, rfl, z, i, rfl, hz, fun H1 e1 => ⟨_, rfl, rfl, _, rfl, ?_⟩⟩
        by_cases hnil : nmAt ((tl z).drop i) = []
        · rw [if_pos hnil] at qx
          have e0 : decide (V.str ⟨(nmAt ((tl z).drop i)).toArray⟩ = V.str (Str.ofString "")) = true := by
            rw [hnil]
            rfl
          rw [e0]
          exact iteT ⟨_, rfl, raise1_by fun dd hd => qx i rfl dd _ (fresh_back e1 hd) (e1.trans (Ex.new hd)) upd_same⟩
        · rw [if_neg hnil] at q
          have e0 : decide (V.str ⟨(nmAt ((tl z).drop i)).toArray⟩ = V.str (Str.ofString "")) = false := decide_eq_false fun h => hnil (by
            have h2 := congrArg tl (V.str.inj h)
            exact h2)
          rw [e0]
          have hl6 := nmAt_len ((tl z).drop i)
          refine iteF ⟨_, rfl, _, rfl, _, rfl, _, rfl, sz_of ?_, _, _, rfl, rfl, by show 2 ≤ sizeLine; decide, fun p2 hp2 => ?_⟩
          · show (nmAt ((tl z).drop i)).length ≤ _
            omega
          · exact q _ _ rfl _ p2 _ (e1.trans (Ex.new hp2)) upd_same .eye
theorem row_of (T : Txt K mg AA) {d L : Nat} (hL : 4 ≤ L) (G : PrX P w K mg base "read_item" s_read_item p_read_item L (spItem AA d)) : PrX P w K mg base "read_row" s_read_row p_read_row (L + 1) (spRow AA d) := by
  refine prx_mk T.f_read_row sc_read_row (fun vs H Q E h => ?_) (fun f cdv A outer s H vs Q E hr h tk => ?_)
  · obtain ⟨z, i, rfl, _⟩ := h
    rfl
  · obtain ⟨z, i, rfl, hd, hz, q, qx⟩ := h
    refine ⟨_, (pss_cons (ps_asg (pcallX G hr tk (pa_cons (pv 0) (pa_cons (pv 1) (pa_cons (pv 2) pa_nil)))) (pg_tup (by rfl) (pgs_cons (pg_name (i := 3) sc_read_row.nd rfl (.inl rfl)) (pgs_cons (pg_name (i := 4) sc_read_row.nd rfl (.inl rfl)) pgs_nil))))
      (pss_cons (ps_if (pt_cmpR op_ne (pe_slice sl_str (pv 0) (po_some (pv 4)) (po_some (pe_op op_add (pv 4) pe_int))) pe_str (nomark _))
      (pss_one (ps_ret (pe_tup (pa_cons (pv 3) (pa_cons (pv 4) pa_nil)))))
      pss_nil)
      (pss_cons (ps_set (i := 5) sc_read_row.nd rfl (.inl rfl) (pcallX (ok_read_sign T) hr tk (pa_cons (pv 0) (pa_cons (pe_op op_add (pv 4) pe_int) pa_nil))))
      (pss_cons (ps_set (i := 6) sc_read_row.nd rfl (.inl rfl) (pe_lst (pa_cons (pv 3) pa_nil)))
      (pss_cons (ps_while (passes_of rfl) (pt_cmpR op_eq (pe_slice sl_str (pv 0) (po_some (pv 4)) (po_some (pe_op op_add (pv 4) pe_int))) pe_str (nomark _))
      (pss_cons (ps_expr (pcallX (ok_check_sign T) hr tk (pa_cons (pv 0) (pa_cons (pe_op op_add (pv 4) pe_int) (pa_cons (pv 5) pa_nil)))))
      (pss_cons (ps_asg (pcallX G hr tk (pa_cons (pv 0) (pa_cons (pe_op op_add (pv 4) pe_int) (pa_cons (pv 2) pa_nil)))) (pg_tup (by rfl) (pgs_cons (pg_name (i := 3) sc_read_row.nd rfl (.inl rfl)) (pgs_cons (pg_name (i := 4) sc_read_row.nd rfl (.inl rfl)) pgs_nil))))
      (pss_one (ps_expr (pe_bm PySem.F.plainAttrs_list PySem.F.slot_list_append PySem.F.type_list_append mt_append (pv 6) (pa_cons (pv 3) pa_nil)))))))
      (pss_one (ps_ret (pe_tup (pa_cons (pe_tup (pa_cons (pv 5) (pa_cons (pv 6) pa_nil))) (pa_cons (pv 4) pa_nil)))))))))), ?_⟩
    have h16 := hz.1
    refine ⟨_, rfl, _, rfl, _, rfl, z, i, rfl, hd, hz, fun c j hcj v p H1 e1 h1 ht => ?_, fun e he => ?_⟩
    · have hrow : rowR (itemR (tl z) d) (tl z) i = if (tl z)[j]? = some 32 then (match signR (tl z) (j + 1) with
          | none => .bad (j + 1)
          | some k => finR k (moreR (itemR (tl z) d) (tl z) k ((tl z).length + 1) [c] j)) else .ok c j := by
        conv => lhs; unfold rowR
        rw [hcj]
        try rfl
      rw [hrow] at q qx
      have hij := item_adv hcj
      refine ⟨p, _, rfl, st_of h1, rfl, _, _, rfl, _, _, rfl, rfl, ?_⟩
      refine ⟨_, rfl, _, rfl, _, rfl, _, rfl, _, _, rfl, rfl, _, rfl, z, rfl, sz_of (by omega), rfl, _, rfl, ?_⟩
      rw [cutS_one]
      show if (!decide (V.str (one (tl z)[j]?) = V.str ⟨#[32]⟩)) = true then _ else _
      rw [one_eq]
      by_cases h32 : (tl z)[j]? = some 32
      · rw [decide_eq_true h32]
        rw [if_pos h32] at q qx
        refine iteF ⟨_, rfl, _, rfl, _, _, rfl, rfl, z, j + 1, rfl, hz, fun k hk H2 e2 => ?_, fun hn => ?_⟩
        · rw [hk] at q qx
          refine ⟨_, rfl, by show 1 ≤ sizeLine; decide, fun l hl => ?_⟩
          have e12 := e1.trans e2
          have hlH : H l = none := fresh_back e12 hl
          have hlH1 : H1 l = none := fresh_back e2 hl
          have q : ∀ cs j2, moreR (itemR (tl z) d) (tl z) k ((tl z).length + 1) [c] j = .ok cs j2 → ∀ (v : V) (p : Addr) (H' : Hp), Ex H H' → H' p = some (.tup [v, .int (j2 : Nat)]) → TrAt (nw H H') v (.node k cs) → Q (.ref p) H' := fun cs j2 hm => q (.node k cs) j2 (by
            show finR k (moreR _ _ _ _ _ _) = _
            rw [hm]
            rfl)
          have qx : ∀ e, moreR (itemR (tl z) d) (tl z) k ((tl z).length + 1) [c] j = .bad e → BadT AA H E (e : Nat) := fun e hm => qx e (by
            show finR k (moreR _ _ _ _ _ _) = _
            rw [hm]
            rfl)
          have ht1 : TrAt (nwx H l (upd H2 l (.lst [v]))) v c := by
            rw [nwx_upd]
            refine ht.mono (H' := nwx H l H2) fun a o g => ?_
            have hne : a ≠ l := fun e => by
              rw [e] at g
              have := nw_sub _ _ g
              rw [hlH1] at this
              cases this
            unfold nwx
            rw [if_neg hne]
            exact nw_ex e2 _ _ g
          have hzl : (tl z).length = z.length := (len_tl z).symm
          generalize hR : moreR (itemR (tl z) d) (tl z) k ((tl z).length + 1) [c] j = R at q qx
          refine while_by (fun σ H' => ∃ (v : V) (j f : Nat) (us : List V) (cs : List Ci), σ = [some (.str z), some (.int (i : Int)), some (.int ((20 - d : Nat) : Int)), some v, some (.int (j : Int)), some (.str (sgS k)), some (.ref l)] ∧ Ex H H' ∧ H' l = some (.lst us) ∧ TrsAt (nwx H l H') us cs ∧ (tl z).length < j + f ∧ moreR (itemR (tl z) d) (tl z) k f cs j = R ∧ us.length ≤ j) (stepN z.length) ⟨v, j, _, _, _, rfl, e12.trans (Ex.new hl), upd_same, .cons ht1 .nil, by omega, hR, by show 1 ≤ j; omega⟩ (fun σ H' hp => ?_) (fun σ H' Q Q' hQ h => ?_)
          · obtain ⟨v, j, f, us, cs, rfl, e3, h3, h4, h5, h6, h7⟩ := hp
            refine ⟨_, rfl, _, rfl, _, rfl, _, rfl, _, _, rfl, rfl, _, rfl, z, rfl, sz_of (by omega), rfl, _, rfl, ?_⟩
            rw [cutS_one]
            show if decide (V.str (one (tl z)[j]?) = V.str ⟨#[32]⟩) = true then _ else _
            rw [one_eq]
            by_cases g32 : (tl z)[j]? = some 32
            · rw [decide_eq_true g32]
              have hjl : j < (tl z).length := (List.getElem?_eq_some_iff.mp g32).1
              cases f with
              | zero => omega
              | succ f =>
                have hun : (if (tl z)[j + 1]? = some (sgnN k) then (if (tl z)[j + 2]? = some 32 then (match itemR (tl z) d (j + 3) with
                    | .bad p => .bad p
                    | .ok c j => moreR (itemR (tl z) d) (tl z) k f (cs ++ [c]) j) else .bad (j + 2)) else .bad (j + 1)) = R := by
                  rw [← h6]
                  conv => rhs; unfold moreR
                  rw [if_pos g32]
                  try rfl
                refine iteT ⟨_, rfl, _, rfl, _, _, rfl, rfl, _, rfl, z, j + 1, k, rfl, hz, fun g1 g2 H4 e4 => ?_, fun g1 => ?_, fun g1 g2 => ?_⟩
                · rw [if_pos g1, if_pos g2] at hun
                  refine ⟨_, rfl, _, rfl, _, _, rfl, rfl, _, rfl, z, j + 3, rfl, hd, hz, fun c2 j2 hc2 v2 p2 H5 e5 h52 ht2 => ?_, fun e he => ?_⟩
                  · rw [hc2] at hun
                    have hjj := item_adv hc2
                    have h35 := e5 _ _ (e4 _ _ h3)
                    refine ⟨p2, _, rfl, st_of h52, rfl, _, _, rfl, _, _, rfl, rfl, ?_⟩
                    refine ⟨_, rfl, .inl ⟨rfl, us, sq_of h35⟩, _, rfl, l, us, v2, rfl, rfl, h35, sz_lt (by omega), ?_⟩
                    refine ⟨⟨v2, j2, f, us ++ [v2], cs ++ [c2], rfl, (e3.trans (e4.trans e5)).mut hlH, upd_same, ?_, by omega, hun, by rw [List.length_append]; show us.length + 1 ≤ j2; omega⟩, ?_⟩
                    · rw [nwx_upd]
                      exact (h4.mono (nwx_ex (e4.trans e5))).snoc (ht2.mono (nwx_of (e4 _ _ h3) (e3.trans e4)))
                    · show z.length + 1 - ((j2 : Nat) : Int).toNat < z.length + 1 - ((j : Nat) : Int).toNat
                      omega
                  · rw [he] at hun
                    exact fun dd H6 hd6 e6 hx => qx e hun.symm dd H6 (fresh_back (e3.trans e4) hd6) ((e3.trans e4).trans e6) hx
                · rw [if_neg g1] at hun
                  exact fun dd H6 hd6 e6 hx => qx (j + 1) hun.symm dd H6 (fresh_back e3 hd6) (e3.trans e6) hx
                · rw [if_pos g1, if_neg g2] at hun
                  exact fun dd H6 hd6 e6 hx => qx (j + 2) hun.symm dd H6 (fresh_back e3 hd6) (e3.trans e6) hx
            · rw [decide_eq_false g32]
              have hun : R = .ok cs j := by
                rw [← h6]
                cases f with
                | zero => rfl
                | succ f =>
                  conv => lhs; unfold moreR
                  rw [if_neg g32]
              refine iteF ⟨_, rfl, _, rfl, by show 2 ≤ sizeLine; decide, fun p1 hp1 => ⟨_, rfl, by show 2 ≤ sizeLine; decide, fun p2 hp2 => ?_⟩⟩
              have e5 := (Ex.new (o := HO.tup [.str (sgS k), .ref l]) hp1).trans (Ex.new (o := HO.tup [.ref p1, .int (j : Int)]) hp2)
              refine q cs j hun (.ref p1) p2 _ (e3.trans e5) upd_same (.node (p := p1) (l := l) (us := us) ?_ ?_ ?_)
              · rw [nw_new (fresh_back e3 hp1)]
                exact Ex.new hp2 _ _ upd_same
              · rw [nw_new hlH]
                exact e5 _ _ h3
              · exact h4.mono (fun a o g => nwx_sub _ _ (nwx_ex e5 _ _ g))
          · obtain ⟨a1, a2, a3, a4, a5, a6, a7, a8, a9, a10, a11, a12, a13, a14, a15, a16, a17, a18, a19, a20, a21⟩ := h
            exact ⟨a1, a2, a3, a4, a5, a6, a7, a8, a9, a10, a11, a12, a13, a14, a15, a16, a17, a18, a19, a20, hQ _ _ a21⟩
        · rw [hn] at qx
          exact fun dd H2 hd e2 hx => qx (j + 1) rfl dd H2 (fresh_back e1 hd) (e1.trans e2) hx
      · rw [decide_eq_false h32]
        rw [if_neg h32] at q
        refine iteT ⟨_, rfl, _, rfl, by show 2 ≤ sizeLine; decide, fun p2 hp2 => ?_⟩
        exact q c j rfl v p2 _ (e1.trans (Ex.new hp2)) upd_same (ht.mono (nw_ex (Ex.new hp2)))
    · refine qx e ?_
      unfold rowR
      rw [he]
theorem ok_read_rowO (T : Txt K mg AA) : ∀ d : Nat, PrX P w K mg base "read_row" s_read_row p_read_row (2 * d + 4) (spRowO AA d)
  | 0 => by
    obtain ⟨f, fd, F, hb, hm⟩ := T.f_read_row
    exact ⟨f, fd, hm, F, hb, fun vs H Q E h => h.elim, fun A outer s H args us vs Q E _ _ _ _ h => h.elim⟩
  | d + 1 => row_of T (by omega) (item_of T (by omega) (ok_read_rowO T d))
theorem ok_read_row (T : Txt K mg AA) : PrX P w K mg base "read_row" s_read_row p_read_row 46 (spRow AA 20) := ok_read_rowO T 21
end
end Eyes

set_option Elab.async false
set_option linter.all false
set_option maxRecDepth 100000
set_option maxHeartbeats 4000000
namespace Eyes
open PySem PySem.Spec PyProof.Rows L2 Evl TL
mutual
def Ci.few : Ci → Prop
  | .eye _ => True
  | .node _ ps => ps.length ≤ 1400 ∧ fews ps
def fews : List Ci → Prop
  | [] => True
  | c :: r => c.few ∧ fews r
end
theorem fews_mem : ∀ {ps : List Ci}, fews ps → ∀ c ∈ ps, c.few
  | c :: r, h, d, hd => by
    rcases List.mem_cons.mp hd with rfl | hd
    · exact h.1
    · exact fews_mem h.2 d hd
def spGrow (AA : Adr) (n : Nat) : Sp := fun vs H Q E => ∃ (v : V) (c : Ci), vs = [v] ∧ Cl H ∧ TrAt H v c ∧ c.ok ∧ c.few ∧ c.depth < n ∧ Ends AA (putC .eye c) H Q E
theorem eye_nice {n : Str} (h : nm n) : (Ci.eye n).nice := ⟨h, by show 1 ≤ 60; decide, by show 0 ≤ 20; decide⟩
section
variable {P : Program} {w : World} {K : PySem.W.Frag} {mg : Str → Option Value} {base : Heap} {AA : Adr}
theorem ok_grown (T : Txt K mg AA) (hw : AA.pp = w.params) : ∀ n : Nat, PrX P w K mg base "grown" s_grown p_grown (n + 7) (spGrow AA n)
  | 0 => by
    obtain ⟨f, fd, F, hb, hm⟩ := T.f_grown
    exact ⟨f, fd, hm, F, hb, fun vs H Q E h => by
      obtain ⟨v, c, _, _, _, _, _, h, _⟩ := h
      omega, fun A outer s H args us vs Q E _ _ _ _ h => by
      obtain ⟨v, c, _, _, _, _, _, h, _⟩ := h
      omega⟩
  | n + 1 => by
    have G := ok_grown T hw n
    refine prx_mk T.f_grown sc_grown (fun vs H Q E h => ?_) (fun f cdv A outer s H vs Q E hr h tk => ?_)
    · obtain ⟨v, c, rfl, _⟩ := h
      rfl
    · obtain ⟨v, c, rfl, hcl, hT, hok, hfew, hdp, q, qx⟩ := h
      refine ⟨_, (pss_cons (ps_if (pt_val (pe_callB (call_isiK (K := K) rfl) (by rfl) T.n_isinstance PyProof.Rows.boot_isinstance (pa_cons (pv 0) (pa_cons (pe_bltn (v := .ty "str") (by rfl) T.n_str (by decide +kernel) rfl) pa_nil))))
      (pss_one (ps_ret (pcall (ok_eye T) hr (pa_cons (pv 0) pa_nil))))
      pss_nil)
      (pss_cons (ps_asg (pv 0) (pg_tup (by rfl) (pgs_cons (pg_name (i := 1) sc_grown.nd rfl (.inl rfl)) (pgs_cons (pg_name (i := 2) sc_grown.nd rfl (.inl rfl)) pgs_nil))))
      (pss_one (ps_ret (pcallX (ok_builtX T) hr tk (pa_cons (pe_ix ix_kdict (pe_glob (v := .ref AA.KINDS) (by rfl) T.m_KINDS rfl) (pv 1) (fun _ _ => rfl)) (pa_cons (pe_lcX (own := [("inner", 3)]) (g := gName 3) (tt := tYes) tk rfl rfl rfl sc_grown.nd (pi_list (pv 2)) (blkOk_by (own := [("inner", 3)]) (N := n_grown) (sc := defScope s_grown) (by decide +kernel)) (fun _ _ _ _ _ => (pg_name (i := 3) sc_grown.nd rfl (.inl rfl))) (fun _ _ _ _ _ => pts_nil) (fun _ _ _ _ _ _ hx => (pcallXP (PrX.frameX G) hr hx (pa_cons (pv 3) pa_nil)))) pa_nil))))))), ?_⟩
      cases hT with
      | @eye z =>
        refine ⟨_, rfl, .str z, .ty "str", _, _, _, rfl, .ty _, .base (.str z), kit_ty (r := true) (by decide +kernel), ⟨_, rfl, iteT ?_⟩⟩
        exact ⟨_, rfl, z, rfl, hok, fun v' H' e' hv' => q _ rfl v' H' e' hv'⟩
      | @node p l k us ps hp hl hus =>
        refine ⟨_, rfl, .ref p, .ty "str", _, _, _, rfl, .ty _, .base (.tup hp), kit_ty (r := false) (by decide +kernel), ⟨_, rfl, iteF ?_⟩⟩
        have hok : 2 ≤ ps.length ∧ oks ps := hok
        have hfw : ps.length ≤ 1400 ∧ fews ps := hfew
        have hpo := oks_mem.mp hok.2
        have hul : us.length = ps.length := hus.length
        have hdn : 1 + depths ps < n + 1 := hdp
        have hkd : KDct K w AA.KINDS (sgS k) (.str (kindS k)) := by
          cases k with
          | true => exact kdct_of T.d_KINDS hw T.d_KINDS_0
          | false => exact kdct_of T.d_KINDS hw T.d_KINDS_1
        refine ⟨_, rfl, p, _, rfl, st_of hp, rfl, _, _, rfl, _, _, rfl, rfl, ?_⟩
        refine ⟨_, rfl, AA.KINDS, _, _, rfl, rfl, hkd, _, rfl, l, rfl, ⟨us, sq_of hl⟩, fun D hD => lc_it (walk_list (xs := us)) (fun i H' => ∃ (ws : List V) (ds : List Ci) (G1 : Hp), H D = none ∧ Ex H G1 ∧ Cl G1 ∧ Ex G1 H' ∧ G1 D = none ∧ H' D = some (.lst ws) ∧ CisAt AA.Circle G1 ws ds ∧ putsC .eye (ps.take i) = .yes ds) ⟨[], [], H, hD, Ex.refl _, hcl, Ex.new hD, hD, upd_same, .nil, rfl⟩ (fun _ _ _ hp => ?_) (fun i v H4 H5 hi hp5 hy => ?_) (fun H4 hp4 => ?_)⟩
        · obtain ⟨ws, ds, G1, _, e1, _, e4, _, h, _⟩ := hp
          exact sq_of (e4 _ _ (e1 _ _ hl))
        · obtain ⟨rfl, hv⟩ := hy
          obtain ⟨c, hg1, hA⟩ := hus.get hv
          obtain ⟨ws, ds, G1, h1, e1, c1, e4, g1, h4, h5, h6⟩ := hp5
          have hcm := List.mem_of_getElem? hg1
          have hcd : c.depth ≤ depths ps := depths_le hcm
          have hwl : ws.length ≤ 1400 := by
            have h8 := h5.length
            have h9 := putsC_len h6
            rw [List.length_take] at h9
            have hi2 : i < ps.length := (List.getElem?_eq_some_iff.mp hg1).1
            omega
          refine ⟨rfl, _, rfl, G1, e4, c1, v, c, rfl, c1, hA.mono e1, hpo c hcm, fews_mem hfw.2 c hcm, by omega, fun c' hc' v' G' eG hv' uf o1 => ?_, fun z hz dd G' hdd eG hx uf o1 => ?_⟩
          · obtain ⟨f1, f2, f3, f4, f5⟩ := fr_use e4 c1 eG uf o1
            refine ⟨ws, f4 _ _ h4, sz_lt (by omega), ws ++ [v'], ds ++ [c'], cutH G', h1, e1.trans f1, f2, f3.mut (f5 _ _ h4 g1), f5 _ _ h4 g1, upd_same, (h5.mono f1).append (CisAt.one hv'.cut), ?_⟩
            rw [putsC_snoc h6 hg1, hc']
            rfl
          · have hd4 : H5 dd = none := by
              cases z4 : H5 dd with
              | none => rfl
              | some o4 =>
                rw [uf dd o4 z4 hdd] at hx
                cases hx
            obtain ⟨f1, f2, f3, f4, f5⟩ := fr_use e4 c1 eG uf o1
            refine qx z ?_ dd _ (fresh_back (e1.trans e4) hd4) ((e1.trans e4).trans f4) ?_
            · rw [putC_node, putsC_cut h6 hg1 hz]
              rfl
            · rw [mrg_new hdd hd4]
              exact hx
        · obtain ⟨ws, ds, G1, h1, e1, c1, e14, g1, h4, h5, h6⟩ := hp4
          have e4 := e1.trans e14
          have h5 := h5.mono e14
          rw [List.take_of_length_le (by rw [hul]; exact Nat.le_refl _)] at h6
          have hdl := putsC_len h6
          have hds := putsC_nice (fun n hn => eye_nice hn) ps hok.2 ds h6
          have h2p : 2 ≤ ps.length := hok.1
          have hpc : putC .eye (.node k ps) = chk (mkC k ds) := by
            rw [putC_node, h6]
            rfl
          refine ⟨D, ws, k, ds, rfl, .inl (sq_of h4), h5, ⟨fun e => by rw [e] at hdl; simp at hdl; omega, fun c hc => (hds c hc).fine, fun c hc => (hds c hc).2.2, by omega⟩, fun ho v H5 e5 hv => q _ ?_ v H5 (e4.trans e5) hv, fun z hz dd H5 hdd e5 hx => qx z ?_ dd H5 (fresh_back e4 hdd) (e4.trans e5) hx⟩
          · rw [hpc]
            unfold chk
            rw [ho]
          · rw [hpc]
            unfold chk
            rw [hz]
def spRead (K : PySem.W.Frag) (AA : Adr) : Sp := fun vs H Q E => ∃ (v : V), vs = [v] ∧ Cl H ∧
  ((∃ z, v = .str z ∧ okT z ∧ (∀ c j, readR (tl z) = .ok c j → c.ok ∧ c.few ∧ c.depth < 25 ∧ Ends AA (putC .eye c) H Q E) ∧ ∀ p, readR (tl z) = .bad p → BadT AA H E (p : Nat)) ∨
    ((∃ t, TyX K H v t ∧ PySem.W.kitOne K t (.type "str") = some false) ∧ BadT AA H E (-1)))
theorem ok_read_circle (T : Txt K mg AA) (hw : AA.pp = w.params) : PrX P w K mg base "read_circle" s_read_circle p_read_circle 47 (spRead K AA) := by
  refine prx_mk T.f_read_circle sc_read_circle (fun vs H Q E h => ?_) (fun f cdv A outer s H vs Q E hr h tk => ?_)
  · obtain ⟨v, rfl, _⟩ := h
    rfl
  · obtain ⟨v, rfl, hcl, ho⟩ := h
    refine ⟨_, (pss_cons (ps_if (pt_not (pt_val (pe_callB (call_isiK (K := K) rfl) (by rfl) T.n_isinstance PyProof.Rows.boot_isinstance (pa_cons (pv 0) (pa_cons (pe_bltn (v := .ty "str") (by rfl) T.n_str (by decide +kernel) rfl) pa_nil)))))
      (pss_one (ps_raise1 T.e_InvalidText (fun _ _ F b => ok_InvalidText___init T F b) rfl tk hr (pa_cons (pe_un un_neg pe_int) pa_nil)))
      pss_nil)
      (pss_cons (ps_asg (pcallX (ok_read_row T) hr tk (pa_cons (pv 0) (pa_cons pe_int (pa_cons pe_int pa_nil)))) (pg_tup (by rfl) (pgs_cons (pg_name (i := 1) sc_read_circle.nd rfl (.inl rfl)) (pgs_cons (pg_name (i := 2) sc_read_circle.nd rfl (.inl rfl)) pgs_nil))))
      (pss_cons (ps_if (pt_cmpR op_lt (pv 2) (pe_callB call_len_str (by rfl) T.n_len PySem.boot_len (pa_cons (pv 0) pa_nil)) (nomark _))
      (pss_one (ps_raise1 T.e_InvalidText (fun _ _ F b => ok_InvalidText___init T F b) rfl tk hr (pa_cons (pv 2) pa_nil)))
      pss_nil)
      (pss_one (ps_ret (pcallX (PrX.cutX (ok_grown T hw 25)) hr tk (pa_cons (pv 1) pa_nil))))))), ?_⟩
    rcases ho with ⟨z, rfl, hz, q, qx⟩ | ⟨⟨t, ht, hk⟩, qx⟩
    · refine ⟨_, rfl, .str z, .ty "str", _, _, _, rfl, .ty _, .base (.str z), kit_ty (r := true) (by decide +kernel), ⟨_, rfl, iteF ?_⟩⟩
      have h16 := hz.1
      have hzl : (tl z).length = z.length := (len_tl z).symm
      refine ⟨_, rfl, z, 0, rfl, by decide, hz, fun c j hcj v p H1 e1 h1 ht => ?_, fun e he => ?_⟩
      · have hread : readR (tl z) = if j < (tl z).length then .bad j else .ok c j := by
          conv => lhs; unfold readR
          rw [hcj]
        rw [hread] at q qx
        refine ⟨p, _, rfl, st_of h1, rfl, _, _, rfl, _, _, rfl, rfl, ?_⟩
        refine ⟨_, rfl, _, rfl, z, rfl, sz_of (by omega), _, _, rfl, rfl, _, rfl, ?_⟩
        by_cases hj : j < (tl z).length
        · rw [decide_eq_true (show ((j : Nat) : Int) < (z.length : Nat) by omega)]
          rw [if_pos hj] at qx
          exact iteT ⟨_, rfl, raise1_by fun dd hd => qx j rfl dd _ (fresh_back e1 hd) (e1.trans (Ex.new hd)) upd_same⟩
        · rw [decide_eq_false (show ¬ ((j : Nat) : Int) < (z.length : Nat) by omega)]
          rw [if_neg hj] at q
          obtain ⟨hok, hfew, hdp, q, qz⟩ := q c j rfl
          refine iteF ⟨_, rfl, rfl, fun cl => ⟨v, c, rfl, cl, (ht.mono nw_sub).cut, hok, hfew, hdp, fun c' hc' v' G' eG hv' uf o1 => ?_, fun y hy dd G' hdd eG hx uf o1 => ?_⟩⟩
          · obtain ⟨f1, f2, f3, f4, f5⟩ := fr_use cut_sub cl eG uf o1
            exact q c' hc' v' _ (e1.trans f4) (hv'.cut.mono f3)
          · have hd4 : H1 dd = none := by
              cases z4 : H1 dd with
              | none => rfl
              | some o4 =>
                rw [uf dd o4 z4 hdd] at hx
                cases hx
            obtain ⟨f1, f2, f3, f4, f5⟩ := fr_use cut_sub cl eG uf o1
            refine qz y hy dd _ (fresh_back e1 hd4) (e1.trans f4) ?_
            rw [mrg_new hdd hd4]
            exact hx
      · refine qx e ?_
        unfold readR
        rw [he]
    · refine ⟨_, rfl, v, .ty "str", _, _, _, rfl, .ty _, ht, hk, ⟨_, rfl, iteT ?_⟩⟩
      exact ⟨_, rfl, raise1_by fun dd hd => qx dd _ hd (Ex.new hd) upd_same⟩
def spIsT (AA : Adr) : Sp := fun vs H Q _ => ∃ (z : Str) (c t : Ci) (j : Nat), vs = [.str z] ∧ Cl H ∧ okT z ∧ readR (tl z) = .ok c j ∧ c.ok ∧ c.few ∧ c.depth < 25 ∧ putC .eye c = .yes t ∧ t.nice ∧ ∀ H', Ex H H' → Q (.bl (decide (t.str = z))) H'
theorem ok_is_circle_text (T : Txt K mg AA) (hw : AA.pp = w.params) : Pr P w K mg base "is_circle_text" s_is_circle_text p_is_circle_text 48 (spIsT AA) := by
  refine pr_mk T.f_is_circle_text sc_is_circle_text (fun vs H Q E h => ?_) (fun f cdv A outer s H vs Q E hr h => ?_)
  · obtain ⟨z, c, t, j, rfl, _⟩ := h
    rfl
  · obtain ⟨z, c, t, j, rfl, hcl, hz, hread, hok, hfew, hdp, hput, htn, q⟩ := h
    refine ⟨_, (pss_cons (ps_tryAs rfl rfl sc_is_circle_text.nd (fun W pn xe tk po => pss_one (ps_set (i := 1) sc_is_circle_text.nd rfl (.inl rfl) (pcallX (ok_read_circle T hw) hr tk (pa_cons (pv 0) pa_nil)))) HdsAs.rest)
      (pss_one (ps_ret (pe_cmpR op_eq (pe_callTy (call_strOwn (ok_Circle___str T) hr) (by rfl) T.n_str PyProof.Rows.boot_str (pa_cons (pv 1) pa_nil)) (pv 0) (nomark _))))), ?_⟩
    refine ⟨_, rfl, .str z, rfl, hcl, .inl ⟨z, rfl, hz, fun c' j' h' => ?_, fun p hp => ?_⟩⟩
    · cases hread.symm.trans h'
      refine ⟨hok, hfew, hdp, fun t' ht' v H1 e1 hv => ?_, fun y hy => ?_⟩
      · cases hput.symm.trans ht'
        obtain ⟨p, dx, l, us, rfl, hp, hl, hcs⟩ := hv.at_
        have hfl := fine_len htn.fine
        refine ⟨_, rfl, p, dx, _, rfl, hp, _, t, rfl, hv, by omega, fun H2 e2 => ⟨_, rfl, _, rfl, rfl, ?_⟩⟩
        have e : decide (V.str t.str = V.str z) = decide (t.str = z) := by
          by_cases h : t.str = z
          · rw [h, decide_eq_true rfl, decide_eq_true rfl]
          · rw [decide_eq_false h, decide_eq_false fun g => h (V.str.inj g)]
        rw [e]
        exact q _ (e1.trans e2)
      · cases hput.symm.trans hy
    · cases hread.symm.trans hp
end
end Eyes

set_option Elab.async false
set_option linter.all false
set_option maxRecDepth 100000
set_option maxHeartbeats 4000000
/-! What a text of an untidied circle tells of it; the law's own cutting. -/
namespace Eyes
open PySem PySem.Spec PyProof.Rows L2 Evl TL
mutual
theorem IT.facts : ∀ {d : Nat} {c : Ci} {s : List Nat}, IT d c s → c.ok ∧ c.depth ≤ d ∧ (∀ x ∈ s, x < 128) ∧ 1 ≤ s.length
  | d, _, _, .name h => ⟨h, Nat.zero_le _, fun x hx => by have := h.2.2 x hx; omega, by rw [← len_tl]; exact h.1⟩
  | _, _, _, .par h => by
    obtain ⟨h1, h2, h3, h4⟩ := RT.facts h
    refine ⟨h1, h2, fun x hx => ?_, by rw [List.length_cons]; omega⟩
    rcases List.mem_cons.mp hx with rfl | hx
    · decide
    · rcases List.mem_append.mp hx with hx | hx
      · exact h3 x hx
      · rw [List.mem_singleton.mp hx]
        decide
theorem RT.facts : ∀ {d : Nat} {c : Ci} {s : List Nat}, RT d c s → c.ok ∧ c.depth ≤ d + 1 ∧ (∀ x ∈ s, x < 128) ∧ 1 ≤ s.length
  | d, _, _, .one h => by
    obtain ⟨h1, h2, h3, h4⟩ := IT.facts h
    exact ⟨h1, by omega, h3, h4⟩
  | d, _, _, .row (k := k) (c := c) (ps := ps) (s := s) (ss := ss) h hl hne => by
    obtain ⟨h1, h2, h3, h4⟩ := IT.facts h
    obtain ⟨g1, g2, g3⟩ := ITl.facts k hl
    have hp := List.length_pos_iff.mpr hne
    refine ⟨⟨by rw [List.length_cons]; omega, h1, oks_mem.mpr g1⟩, ?_, fun x hx => ?_, ?_⟩
    · have := depths_bd (n := d) (ps := c :: ps) fun e he => by
        rcases List.mem_cons.mp he with rfl | he
        · exact h2
        · exact g2 e he
      show 1 + depths (c :: ps) ≤ d + 1
      omega
    · rw [joinL_tail] at hx
      rcases List.mem_append.mp hx with hx | hx
      · exact h3 x hx
      · exact g3 x hx
    · rw [joinL_tail, List.length_append]
      omega
theorem ITl.facts (k : Bool) : ∀ {d : Nat} {ps : List Ci} {ss : List (List Nat)}, ITl d ps ss → (∀ c ∈ ps, c.ok) ∧ (∀ c ∈ ps, c.depth ≤ d) ∧ ∀ x ∈ tailJ k ss, x < 128
  | d, _, _, .nil => ⟨(fun c hc => nomatch hc), (fun c hc => nomatch hc), (fun x hx => nomatch hx)⟩
  | d, _, _, .cons h hl => by
    obtain ⟨h1, h2, h3, h4⟩ := IT.facts h
    obtain ⟨g1, g2, g3⟩ := ITl.facts k hl
    refine ⟨fun e he => ?_, fun e he => ?_, fun x hx => ?_⟩
    · rcases List.mem_cons.mp he with rfl | he
      · exact h1
      · exact g1 e he
    · rcases List.mem_cons.mp he with rfl | he
      · exact h2
      · exact g2 e he
    · rcases List.mem_cons.mp hx with rfl | hx
      · decide
      · rcases List.mem_cons.mp hx with rfl | hx
        · cases k <;> decide
        · rcases List.mem_cons.mp hx with rfl | hx
          · decide
          · rcases List.mem_append.mp hx with hx | hx
            · exact h3 x hx
            · exact g3 x hx
end
theorem IT.head {d : Nat} {c : Ci} {s : List Nat} (h : IT d c s) : ∃ x r, s = x :: r ∧ x ≠ 38 ∧ x ≠ 124 ∧ x ≠ 41 := by
  cases h with
  | name h =>
    obtain ⟨x, h1, h2, h3⟩ := nm_head h []
    rw [List.append_nil] at h1
    cases e : tl _ with
    | nil =>
      rw [e] at h1
      cases h1
    | cons y r =>
      rw [e] at h1
      cases h1
      exact ⟨_, r, rfl, by omega, by omega, by omega⟩
  | par h => exact ⟨40, _, rfl, by decide, by decide, by decide⟩
/-! ### cut at the signs that stand in no parentheses -/
structure Cut where
  pcs : List (List Nat)
  sg : Option Bool
  op : Int
  bg : Nat
def opN (h : Int) (x : Nat) : Int := if x = 40 then h + 1 else if x = 41 then h - 1 else h
def sgn? (x : Nat) : Option Bool := if x = 38 then some true else if x = 124 then some false else none
def cutS1 (xs : List Nat) (c : Cut) (i : Nat) (x : Nat) : Cut :=
  if opN c.op x = 0 ∧ sgn? x ≠ none then ⟨c.pcs ++ [(xs.take (i - 1)).drop c.bg], sgn? x, opN c.op x, i + 2⟩ else { c with op := opN c.op x }
def cutN (xs : List Nat) : Nat → Cut
  | 0 => ⟨[], none, 0, 0⟩
  | i + 1 => cutS1 xs (cutN xs i) i (xs.getD i 0)
theorem getD_of {xs r : List Nat} {i x : Nat} (h : xs.drop i = x :: r) : xs.getD i 0 = x := by
  rw [List.getD_eq_getElem?_getD, getAt h]
  rfl
theorem dropCons {xs r : List Nat} {i x : Nat} (h : xs.drop i = x :: r) : xs.drop (i + 1) = r := dropAt (a := [x]) (b := r) h
theorem cut_let {xs : List Nat} : ∀ {s post : List Nat} {i : Nat}, xs.drop i = s ++ post → (∀ x ∈ s, 97 ≤ x ∧ x ≤ 122) → cutN xs (i + s.length) = cutN xs i
  | [], _, _, _, _ => rfl
  | x :: s, post, i, h, hs => by
    have hx := hs x List.mem_cons_self
    have h1 := cut_let (i := i + 1) (dropCons h) fun y hy => hs y (List.mem_cons_of_mem _ hy)
    have e : cutN xs (i + 1) = cutN xs i := by
      show cutS1 xs (cutN xs i) i (xs.getD i 0) = _
      rw [getD_of h]
      have e1 : opN (cutN xs i).op x = (cutN xs i).op := by
        unfold opN
        rw [if_neg (by omega), if_neg (by omega)]
      have e2 : sgn? x = none := by
        unfold sgn?
        rw [if_neg (by omega), if_neg (by omega)]
      unfold cutS1
      rw [e2, if_neg fun g => g.2 rfl, e1]
    rw [List.length_cons, show i + (s.length + 1) = i + 1 + s.length by omega, h1, e]
theorem cut_one {xs r : List Nat} {i x : Nat} (h : xs.drop i = x :: r) (hn : ¬ (opN (cutN xs i).op x = 0 ∧ sgn? x ≠ none)) : cutN xs (i + 1) = { cutN xs i with op := opN (cutN xs i).op x } := by
  show cutS1 xs (cutN xs i) i (xs.getD i 0) = _
  rw [getD_of h]
  unfold cutS1
  rw [if_neg hn]
mutual
theorem cut_item {xs : List Nat} : ∀ {d : Nat} {c : Ci} {s : List Nat}, IT d c s → ∀ {post : List Nat} {i : Nat}, xs.drop i = s ++ post → 0 ≤ (cutN xs i).op → cutN xs (i + s.length) = cutN xs i
  | d, _, _, .name h, post, i, hx, h0 => cut_let hx h.2.2
  | _, _, _, .par (s := s) h, post, i, hx, h0 => by
    have hx : xs.drop i = 40 :: ((s ++ [41]) ++ post) := hx
    have e1 : cutN xs (i + 1) = { cutN xs i with op := (cutN xs i).op + 1 } := cut_one hx (x := 40) (r := (s ++ [41]) ++ post) (by
      rintro ⟨a, _⟩
      have a : (cutN xs i).op + 1 = 0 := a
      omega)
    have hx1 : xs.drop (i + 1) = s ++ (41 :: post) := by
      have := dropCons (x := 40) (r := (s ++ [41]) ++ post) hx
      rw [this]
      simp
    have e2 := cut_row h hx1 (by rw [e1]; show 1 ≤ (cutN xs i).op + 1; omega)
    have hx2 := dropAt hx1
    have e3 : cutN xs (i + 1 + s.length + 1) = { cutN xs (i + 1 + s.length) with op := (cutN xs (i + 1 + s.length)).op - 1 } := cut_one hx2 (x := 41) (r := post) (fun g => g.2 rfl)
    rw [List.length_cons, List.length_append, show i + (s.length + [41].length + 1) = i + 1 + s.length + 1 by show i + (s.length + 1 + 1) = _; omega, e3, e2, e1]
    show Cut.mk _ _ ((cutN xs i).op + 1 - 1) _ = _
    rw [show (cutN xs i).op + 1 - 1 = (cutN xs i).op by omega]
theorem cut_row {xs : List Nat} : ∀ {d : Nat} {c : Ci} {s : List Nat}, RT d c s → ∀ {post : List Nat} {i : Nat}, xs.drop i = s ++ post → 1 ≤ (cutN xs i).op → cutN xs (i + s.length) = cutN xs i
  | d, _, _, .one h, post, i, hx, h0 => cut_item h hx (by omega)
  | d, _, _, .row (k := k) (s := s) (ss := ss) h hl hne, post, i, hx, h0 => by
    rw [joinL_tail, List.append_assoc] at hx
    have e1 := cut_item h hx (by omega)
    have e2 := cut_tail k hl (dropAt hx) (by rw [e1]; exact h0)
    rw [joinL_tail, List.length_append, ← Nat.add_assoc, e2, e1]
theorem cut_tail {xs : List Nat} (k : Bool) : ∀ {d : Nat} {ps : List Ci} {ss : List (List Nat)}, ITl d ps ss → ∀ {post : List Nat} {i : Nat}, xs.drop i = tailJ k ss ++ post → 1 ≤ (cutN xs i).op → cutN xs (i + (tailJ k ss).length) = cutN xs i
  | d, _, _, .nil, post, i, hx, h0 => rfl
  | d, _, _, .cons (s := s) (ss := ss) h hl, post, i, hx, h0 => by
    have hx0 : xs.drop i = 32 :: sgnN k :: 32 :: (s ++ (tailJ k ss ++ post)) := by
      rw [hx]
      show 32 :: sgnN k :: 32 :: ((s ++ tailJ k ss) ++ post) = _
      rw [List.append_assoc]
    have o32 : ∀ h : Int, opN h 32 = h := fun h => rfl
    have osg : ∀ h : Int, opN h (sgnN k) = h := fun h => by cases k <;> rfl
    have e1 : cutN xs (i + 1) = cutN xs i := cut_one hx0 (fun g => g.2 rfl)
    have e2 : cutN xs (i + 1 + 1) = cutN xs i := by
      rw [cut_one (dropCons hx0) (fun g => by rw [e1, osg] at g; omega), osg, e1]
    have e3 : cutN xs (i + 1 + 1 + 1) = cutN xs i := by
      rw [cut_one (dropCons (dropCons hx0)) (fun g => g.2 rfl), o32, e2]
    have hx3 := dropCons (dropCons (dropCons hx0))
    have e4 := cut_item h hx3 (by rw [e3]; omega)
    have e5 := cut_tail k hl (dropAt hx3) (by rw [e4, e3]; exact h0)
    show cutN xs (i + (32 :: sgnN k :: 32 :: (s ++ tailJ k ss)).length) = _
    rw [List.length_cons, List.length_cons, List.length_cons, List.length_append, show i + (s.length + (tailJ k ss).length + 1 + 1 + 1) = i + 1 + 1 + 1 + s.length + (tailJ k ss).length by omega, e5, e4, e3]
end
theorem cut_tops {xs : List Nat} (k : Bool) : ∀ {d : Nat} {ps : List Ci} {ss : List (List Nat)}, ITl d ps ss → ∀ {s : List Nat} {acc : List (List Nat)} {i : Nat} {m : Option Bool}, 1 ≤ s.length → xs.drop i = s ++ tailJ k ss → cutN xs (i + s.length) = ⟨acc, m, 0, i⟩ →
    ∃ ps' l b, cutN xs xs.length = ⟨acc ++ ps', (if ss = [] then m else some k), 0, b⟩ ∧ xs.drop b = l ∧ ps' ++ [l] = s :: ss
  | d, _, _, .nil, s, acc, i, m, hs, hx, hc => by
    have hx : xs.drop i = s ++ [] := hx
    rw [List.append_nil] at hx
    have hl : i + s.length = xs.length := by
      have := congrArg List.length hx
      rw [List.length_drop] at this
      omega
    rw [← hl, hc, if_pos rfl]
    exact ⟨[], s, i, by rw [List.append_nil], hx, rfl⟩
  | d, _, _, .cons (s := s2) (ss := ss) h hl, s, acc, i, m, hs, hx, hc => by
    have hx0 : xs.drop (i + s.length) = 32 :: sgnN k :: 32 :: (s2 ++ tailJ k ss) := dropAt hx
    have o32 : ∀ h : Int, opN h 32 = h := fun h => rfl
    have osg : ∀ h : Int, opN h (sgnN k) = h := fun h => by cases k <;> rfl
    have esg : sgn? (sgnN k) = some k := by cases k <;> rfl
    have hpc : (xs.take (i + s.length)).drop i = s := by
      rw [List.drop_take, hx, Nat.add_sub_cancel_left, List.take_left]
    have e1 : cutN xs (i + s.length + 1) = ⟨acc, m, 0, i⟩ := by
      rw [cut_one hx0 (fun g => g.2 rfl), o32, hc]
    have e2 : cutN xs (i + s.length + 1 + 1) = ⟨acc ++ [s], some k, 0, i + s.length + 3⟩ := by
      show cutS1 xs (cutN xs (i + s.length + 1)) (i + s.length + 1) (xs.getD (i + s.length + 1) 0) = _
      rw [getD_of (dropCons hx0), e1]
      unfold cutS1
      rw [osg, esg, if_pos ⟨rfl, fun h => by cases h⟩]
      show Cut.mk (acc ++ [(xs.take (i + s.length)).drop i]) _ _ _ = _
      rw [hpc]
    have e3 : cutN xs (i + s.length + 3) = ⟨acc ++ [s], some k, 0, i + s.length + 3⟩ := by
      show cutN xs (i + s.length + 1 + 1 + 1) = _
      rw [cut_one (dropCons (dropCons hx0)) (fun g => g.2 rfl), o32, e2]
    have hx3 : xs.drop (i + s.length + 3) = s2 ++ tailJ k ss := dropCons (dropCons (dropCons hx0))
    have e4 := cut_item h hx3 (by rw [e3]; exact Int.le_refl _)
    rw [e3] at e4
    obtain ⟨ps', l, b, f1, f2, f3⟩ := cut_tops k hl (IT.facts h).2.2.2 hx3 e4
    refine ⟨s :: ps', l, b, ?_, f2, by rw [List.cons_append, f3]⟩
    have e : (if ss = [] then some k else some k) = some k := by split <;> rfl
    have e' : (if s2 :: ss = [] then m else some k) = some k := if_neg (List.cons_ne_nil _ _)
    rw [f1, e, e', List.append_assoc]
    rfl
theorem cut_whole {d : Nat} {k : Bool} {ps : List Ci} {ss : List (List Nat)} (h : ITl d ps ss) (h2 : 2 ≤ ps.length) {xs : List Nat} (hx : xs = joinL (tl (sepS k)) ss) : ∃ ps' b, cutN xs xs.length = ⟨ps', some k, 0, b⟩ ∧ ps' ++ [xs.drop b] = ss := by
  cases h with
  | nil => exact absurd h2 (by decide)
  | cons h hl =>
    rename_i s ss
    rw [joinL_tail] at hx
    have hx0 : xs.drop 0 = s ++ tailJ k ss := hx
    have e0 := cut_item h hx0 (by show (0 : Int) ≤ 0; decide)
    obtain ⟨ps', l, b, f1, f2, f3⟩ := cut_tops k hl (IT.facts h).2.2.2 (acc := []) (m := none) hx0 e0
    refine ⟨ps', b, ?_, by rw [f2]; exact f3⟩
    rw [f1, List.nil_append, if_neg]
    intro e
    subst e
    cases hl
    exact absurd h2 (by simp)
theorem cut_alone {d : Nat} {c : Ci} {xs : List Nat} (h : IT d c xs) : cutN xs xs.length = ⟨[], none, 0, 0⟩ := by
  have e0 := cut_item h (post := []) (i := 0) (by rw [List.append_nil]; rfl) (by show (0 : Int) ≤ 0; decide)
  rw [Nat.zero_add] at e0
  exact e0
theorem Raw.few4 : ∀ {n : Nat} {c : Ci}, Raw n c → ∀ {d : Ci}, d ∈ c.parts → Raw (n - 1) d
  | _, .eye t, .eye h, d, hd => by cases hd
  | n + 1, .node k ps, h, d, hd => h.parts.2.2 d hd
theorem lenB_mono (n : Nat) : lenB n ≤ lenB (n + 1) := by
  show lenB n ≤ 4 * (lenB n + 6) + 12
  omega
theorem lenB_6 : ∀ n : Nat, 6 ≤ lenB n
  | 0 => Nat.le_refl _
  | n + 1 => Nat.le_trans (lenB_6 n) (lenB_mono n)
theorem tailJ_len (k : Bool) : ∀ ss : List (List Nat), (tailJ k ss).length = (ss.map List.length).sum + 3 * ss.length
  | [] => rfl
  | s :: ss => by
    show (32 :: sgnN k :: 32 :: (s ++ tailJ k ss)).length = _
    rw [List.length_cons, List.length_cons, List.length_cons, List.length_append, tailJ_len k ss, List.map_cons, List.sum_cons, List.length_cons]
    omega
theorem sum_bd {m : Nat} : ∀ {ss : List (List Nat)}, (∀ s ∈ ss, s.length ≤ m) → (ss.map List.length).sum ≤ ss.length * m
  | [], _ => Nat.zero_le _
  | s :: ss, h => by
    have h1 := h s List.mem_cons_self
    have h2 := sum_bd (ss := ss) fun t ht => h t (List.mem_cons_of_mem _ ht)
    rw [List.map_cons, List.sum_cons, List.length_cons, Nat.succ_mul]
    omega
theorem join_bd {k : Bool} {m : Nat} {ss : List (List Nat)} (h : ∀ s ∈ ss, s.length ≤ m) : (joinL (tl (sepS k)) ss).length ≤ ss.length * m + 3 * ss.length := by
  cases ss with
  | nil => exact Nat.zero_le _
  | cons s ss =>
    rw [joinL_tail, List.length_append, tailJ_len]
    have h1 := h s List.mem_cons_self
    have h2 := sum_bd (ss := ss) fun t ht => h t (List.mem_cons_of_mem _ ht)
    rw [List.length_cons, Nat.add_mul, Nat.one_mul]
    omega
end Eyes

set_option Elab.async false
set_option linter.all false
set_option maxRecDepth 100000
set_option maxHeartbeats 4000000
/-! one sign * a number: the sign so many times. -/
namespace Eyes
open PySem PySem.Spec PyProof.Rows L2
theorem foldl_cat (c : Nat) : ∀ (n : Nat) (acc : Array Nat), (List.foldl (fun a b => a ++ b) acc (List.replicate n (#[c] : Array Nat))).toList = acc.toList ++ List.replicate n c
  | 0, acc => by simp
  | n + 1, acc => by
    rw [List.replicate_succ, List.foldl_cons, foldl_cat c n]
    simp [List.replicate_succ]
def rMulS : R2 := fun x y H Q => ∃ (c n : Nat), x = .str ⟨#[c]⟩ ∧ y = .int (n : Int) ∧ n ≤ 2000 ∧ Q (.str ⟨(List.replicate n c).toArray⟩) H
section
variable {X : Cx}
theorem op_mulS : OpR X (binaryOp .Mult) rMulS := by
  intro pins s σ H x y v u Q I rx ry h
  obtain ⟨c, n, rfl, rfl, hn, q⟩ := h
  obtain ⟨t1, rfl⟩ := rx
  obtain ⟨t2, rfl⟩ := ry
  have hsz : 2000 ≤ sizeLine := by decide
  have hl1 : (⟨#[c]⟩ : Str).length = 1 := rfl
  refine P.mul_str ?_ ?_ ?_ ?_
  · have a : ¬ ((n : Int) < -2 ^ 63) := by omega
    have b : ¬ ((n : Int) ≥ 2 ^ 63) := by omega
    rw [decide_eq_false a, decide_eq_false b]
    rfl
  · intro h1 _
    rw [hl1]
    intro h2
    have h3 : (2 ^ 63 - 1 : Int) / (n : Int) < 1 := h2
    have h4 : (1 : Int) ≤ (2 ^ 63 - 1 : Int) / (n : Int) := by
      rw [Int.le_ediv_iff_mul_le (by omega)]
      omega
    omega
  · intro h1 _
    show decide (_ > sizeLine) = false
    refine decide_eq_false ?_
    rw [hl1]
    omega
  · have fin : ∀ z : Str, z = ⟨(List.replicate n c).toArray⟩ → ∀ s', L2.Inv X pins σ H s' → ∀ t, EP X pins σ Q (.str z t) s' := fun z e s' I' t => by
      subst e
      exact ⟨.str _, H, I', ⟨t, rfl⟩, q⟩
    by_cases h1 : (n : Int) < 1
    · have hn0 : n = 0 := by omega
      rw [if_pos h1]
      subst hn0
      exact ⟨Nat.zero_le _, fin Str.empty rfl _ (I.tok _) _⟩
    · rw [if_neg h1]
      by_cases h2 : ((n : Int) == 1 || (⟨#[c]⟩ : Str).length == 0) = true
      · rw [if_pos h2]
        have hn1 : n = 1 := by
          rw [hl1] at h2
          simp at h2
          omega
        subst hn1
        exact fin ⟨#[c]⟩ rfl _ I _
      · rw [if_neg h2]
        have e : (⟨List.foldl (fun a b => a ++ b) #[] (List.replicate ((n : Int)).toNat (#[c] : Array Nat))⟩ : Str) = ⟨(List.replicate n c).toArray⟩ := by
          have h := foldl_cat c n #[]
          rw [List.nil_append] at h
          rw [Int.toNat_natCast]
          congr 1
          rw [← h]
        refine ⟨?_, fin _ e _ (I.tok _) _⟩
        rw [e]
        show (List.replicate n c).toArray.size ≤ _
        simp
        omega
end
end Eyes

set_option Elab.async false
set_option linter.all false
set_option maxRecDepth 100000
set_option maxHeartbeats 4000000
namespace Eyes
open PySem PySem.Spec PyProof.Rows L2 Evl TL
def spRaw (n : Nat) : Sp := fun vs H Q _ => ∃ (b tla : Addr) (d : Nat) (G : Hp) (ts : List Str), vs = [.ref b, .ref tla, .int (d : Int)] ∧ At b G H ∧ G tla = some (.lst (ts.map V.str)) ∧ ts ≠ [] ∧ ts.length ≤ 1000 ∧ (∀ t ∈ ts, nm t) ∧ d < n ∧ d ≤ 8 ∧
  ∀ (v : V) (c : Ci) (G' H' : Hp), Ex G G' → At b G' H' → Rep G' v c.data → Raw d c → Q v H'
def spTidy (n : Nat) : Sp := fun vs H Q _ => ∃ (v : V) (c : Ci) (m : Nat), vs = [v] ∧ Rep H v c.data ∧ Raw m c ∧ m ≤ 3 ∧ m < n ∧ ∀ v' H', Ex H H' → Rep H' v' (tidyC c).data → Q v' H'
def spLoose (n : Nat) : Sp := fun vs H Q _ => ∃ (b : Addr) (v : V) (c : Ci) (m : Nat) (G : Hp), vs = [.ref b, v] ∧ At b G H ∧ Rep G v c.data ∧ Raw m c ∧ m ≤ 3 ∧ m < n ∧ ∀ z H', At b G H' → RT (3 * m) c (tl z) → z.length ≤ lenB m → Q (.str z) H'
def spOpen : Sp := fun vs H Q _ => ∃ (z : Str), vs = [.str z] ∧ okT z ∧ ∀ H', Ex H H' → Q (.int ((tl z).foldl opS (0, 0)).2) H'
def spWriting : Sp := fun vs H Q _ => ∃ (b : Addr) (v : V) (c : Ci) (m : Nat) (G : Hp), vs = [.ref b, v] ∧ At b G H ∧ Rep G v c.data ∧ Raw m c ∧ m ≤ 3 ∧ ∀ z H', At b G H' → RT 20 c (tl z) → z.length ≤ 2000 → Q (.str z) H'
section
variable {P : Program} {w : World} {K : PySem.W.Frag} {mg : Str → Option Value} {base : Heap} {AA : Adr}
theorem ok_law_raw (T : Txt K mg AA) : ∀ n : Nat, Pr P w K mg base "_law_raw" s_law_raw p_law_raw (n + 3) (spRaw n)
  | 0 => by
    obtain ⟨f, fd, F, hb, hm⟩ := T.f_law_raw
    exact ⟨f, fd, hm, F, hb, fun vs H Q E h => by
      obtain ⟨_, _, _, _, _, _, _, _, _, _, _, h, _⟩ := h
      omega, fun A outer s H args us vs Q E _ _ _ _ h => by
      obtain ⟨_, _, _, _, _, _, _, _, _, _, _, h, _⟩ := h
      omega⟩
  | n + 1 => by
    have G := ok_law_raw T n
    refine pr_mk T.f_law_raw sc_law_raw (fun vs H Q E h => ?_) (fun f cdv A outer s H vs Q E hr h => ?_)
    · obtain ⟨b, tl, d, G, ts, rfl, _⟩ := h
      rfl
    · obtain ⟨b, tla, d, G0, ts, rfl, hA, hT, hne, htl, hnm, hd, hd8, q⟩ := h
      refine ⟨_, (pss_cons (ps_set (i := 3) sc_law_raw.nd rfl (.inl rfl) (pcall (ok_law_draw T) hr (pa_cons (pv 0) (pa_cons pe_int pa_nil))))
      (pss_cons (ps_if (PW.pt (pw_or (pt_cmpR op_eq (pv 2) pe_int (nomark _)) (pw_or1 (pt_cmpR op_eq (pv 3) pe_int (nomark _)))))
      (pss_one (ps_ret (pe_tup (pa_cons pe_str (pa_cons (pcall (ok_law_of T) hr (pa_cons (pv 0) (pa_cons (pv 1) pa_nil))) pa_nil)))))
      pss_nil)
      (pss_cons (ps_setLc (i := 4) (own := [("_law_k", 5)]) (g := gName 5) (tt := tYes) rfl sc_law_raw.nd rfl rfl (sw_true rfl rfl rfl (by decide +kernel)) (pi_range1 (by rfl) T.n_range (pa_cons (pe_op op_add pe_int (pcall (ok_law_draw T) hr (pa_cons (pv 0) (pa_cons pe_int pa_nil)))) pa_nil)) (blkOk_by (own := [("_law_k", 5)]) (N := n_law_raw) (sc := defScope s_law_raw) (by decide +kernel)) (fun _ _ _ _ _ => (pg_name (i := 5) sc_law_raw.nd rfl (.inl rfl))) (fun _ _ _ _ _ => pts_nil) (fun _ _ _ _ _ => (pcall G hr (pa_cons (pv 0) (pa_cons (pv 1) (pa_cons (pe_op op_sub (pv 2) pe_int) pa_nil))))))
      (Evl.pss_cut (ps_if (pt_cmpR op_eq (pcall (ok_law_draw T) hr (pa_cons (pv 0) (pa_cons pe_int pa_nil))) pe_int (nomark _))
      (pss_one (ps_expr (pe_bm PySem.F.plainAttrs_list PySem.F.slot_list_append PySem.F.type_list_append mt_append (pv 4) (pa_cons (pcall (ok_law_of T) hr (pa_cons (pv 0) (pa_cons (pv 4) pa_nil))) pa_nil))))
      pss_nil)
      (pss_one (ps_ret (pe_tup (pa_cons (pe_ifExp (pt_cmpR op_lt (pv 3) pe_int (nomark _)) pe_str pe_str) (pa_cons (pe_callTy call_tuple_of (by rfl) T.n_tuple PyProof.Rows.boot_tuple (pa_cons (pv 4) pa_nil)) pa_nil))))))))), ?_⟩
      refine ⟨_, rfl, b, 5, G0, rfl, hA, by decide, by decide, fun tn H1 t0 t1 hA1 => ?_⟩
      have eyeC : ∀ (v : V) (H2 : Hp), v ∈ ts.map V.str → At b G0 H2 → ∀ p, H2 p = none → Q (.ref p) (upd H2 p (.tup [.str "eye", v])) := fun v H2 hv hA2 p hp => by
        obtain ⟨t, ht, rfl⟩ := List.mem_map.mp hv
        exact q _ (.eye t) (upd G0 p (.tup [.str "eye", .str t])) _ (Ex.new (hA2.nh hp)) (hA2.new hp) (.tup upd_same (.cons (.str _) (.cons (.str _) .nil))) (.eye (hnm t ht))
      have htp : 0 < (ts.map V.str).length := by
        rw [List.length_map]
        exact List.length_pos_iff.mpr hne
      have htq : (ts.map V.str).length < 1073741824 := by
        rw [List.length_map]
        omega
      have eyeG : ∀ H2, At b G0 H2 → ∀ {W : Prop}, W → W := fun _ _ _ h => h
      by_cases hd0 : d = 0
      · subst hd0
        refine ⟨_, rfl, rfl, _, rfl, iteT (iteT ?_)⟩
        exact ⟨_, rfl, _, rfl, b, .ref tla, G0, _, rfl, hA1, .inl ⟨tla, rfl, sq_of hT⟩, htp, htq, fun v H2 hv hA2 => ⟨by show 2 ≤ sizeLine; decide, fun p hp => eyeC v H2 hv hA2 p hp⟩⟩
      · have e0 : decide (V.int (d : Int) = V.int 0) = false := decide_eq_false fun h => hd0 (by injection h with h; omega)
        refine ⟨_, rfl, rfl, _, rfl, ?_⟩
        rw [e0]
        refine iteF ⟨_, rfl, rfl, _, rfl, ite2 (fun h1 => ?_) (fun h1 => ?_)⟩
        · exact ⟨_, rfl, _, rfl, b, .ref tla, G0, _, rfl, hA1, .inl ⟨tla, rfl, sq_of hT⟩, htp, htq, fun v H2 hv hA2 => ⟨by show 2 ≤ sizeLine; decide, fun p hp => eyeC v H2 hv hA2 p hp⟩⟩
        · have hdi : ((d : Nat) : Int) - 1 = ((d - 1 : Nat) : Int) := by omega
          obtain ⟨m, rfl⟩ : ∃ m, d = m + 1 := ⟨d - 1, by omega⟩
          refine ⟨_, rfl, b, 2, G0, rfl, hA1, by decide, by decide, fun sz H2 z0 z1 hA2 => ⟨2, sz, rfl, rfl, _, rfl, by omega, by omega, fun D hD => lc_it walk_range (fun i H' => ∃ (us : List V) (cs : List Ci) (G1 : Hp), cs.length = i ∧ At b G1 H' ∧ Ex G0 G1 ∧ G1 D = some (.lst us) ∧ Reps G1 us (datas cs) ∧ ∀ c ∈ cs, Raw m c)
            ⟨[], [], _, rfl, hA2.new hD, Ex.new (hA2.nh hD), upd_same, .nil, fun c hc => by cases hc⟩ (fun _ _ _ _ => True.intro) (fun i v H3 H4 hi hp hy => ?_) (fun H' hp => ?_)⟩⟩
          · obtain ⟨rfl, rfl⟩ := hy
            obtain ⟨us, cs, G1, hl, hA3, e1, hD1, hr1, hcs⟩ := hp
            refine ⟨rfl, ?_⟩
            refine ⟨_, rfl, _, rfl, _, rfl, _, 1, rfl, rfl, b, tla, m, G1, ts, ?_, hA3, e1 _ _ hT, hne, htl, hnm, by omega, by omega, fun v c G2 H5 e2 hA4 hv hrw => ?_⟩
            · show [V.ref b, V.ref tla, V.int (((m + 1 : Nat) : Int) - 1)] = _
              rw [hdi]
              rfl
            · have hul := hr1.lengthC
              refine ⟨us, hA4.ex _ _ (e2 _ _ hD1), sz_lt (by omega), us ++ [v], cs ++ [c], upd G2 D (.lst (us ++ [v])), by simp [hl], hA4.put' (e2 _ _ hD1), (e1.trans e2).mut (hA2.nh hD), upd_same, ?_, ?_⟩
              · rw [datas_append]
                exact (Reps.lstUp (e2 _ _ hD1) (hr1.mono e2)).append (.cons (Rep.lstUp (e2 _ _ hD1) hv) .nil)
              · intro x hx
                rcases List.mem_append.mp hx with hx | hx
                · exact hcs x hx
                · rw [List.mem_singleton.mp hx]
                  exact hrw
          · obtain ⟨us, cs, G1, hl, hA3, e1, hD1, hr1, hcs⟩ := hp
            have hul := hr1.lengthC
            have hl2 : 2 ≤ cs.length := by omega
            have hl3 : cs.length ≤ 3 := by omega
            refine ⟨fun σ H' => ∃ (us : List V) (cs : List Ci) (G1 : Hp) (y : Option V), σ = [some (.ref b), some (.ref tla), some (.int ((m + 1 : Nat) : Int)), some (.int tn), some (.ref D), y] ∧ At b G1 H' ∧ Ex G0 G1 ∧ G1 D = some (.lst us) ∧ Reps G1 us (datas cs) ∧ us.length ≤ 4 ∧ ∀ k, Raw (m + 1) (.node k cs), ?_, fun σ H5 hM => ?_⟩
            · refine ⟨_, rfl, b, 4, G1, rfl, hA3, by decide, by decide, fun t2 H4 t20 t21 hA4 => ⟨rfl, _, rfl, ite2 (fun hb => ?_) (fun hb => ?_)⟩⟩
              · refine ⟨_, rfl, .inl ⟨rfl, us, sq_of (hA4.ex _ _ hD1)⟩, _, rfl, _, rfl, b, .ref D, G1, us, rfl, hA4, .inl ⟨D, rfl, sq_of hD1⟩, by omega, by omega, fun v H5 hv hA5 => ?_⟩
                obtain ⟨i, hi, hvi⟩ := List.mem_iff_getElem.mp hv
                obtain ⟨c, hc, hrc⟩ := hr1.getC (show us[i]? = some v by rw [List.getElem?_eq_getElem hi, hvi])
                have hcm := List.mem_of_getElem? hc
                refine ⟨D, us, v, rfl, rfl, hA5.ex _ _ hD1, sz_lt (by omega), us ++ [v], cs ++ [c], upd G1 D (.lst (us ++ [v])), _, rfl, hA5.put' hD1, e1.mut (hA2.nh hD), upd_same, ?_, by rw [List.length_append]; show us.length + 1 ≤ 4; omega, fun k => .node hl2 hl3 hcs (.inr ⟨c, hcm, rfl⟩)⟩
                rw [datas_append]
                exact (Reps.lstUp hD1 hr1).append (.cons (Rep.lstUp hD1 hrc) .nil)
              · exact ⟨us, cs, G1, _, rfl, hA4, e1, hD1, hr1, by omega, fun k => .node hl2 hl3 hcs (.inl rfl)⟩
            · obtain ⟨us, cs, G1, y, rfl, hA5, e1, hD1, hr1, hu4, hrw⟩ := hM
              have fin : ∀ k : Bool, ∀ l, H5 l = none → ∀ p, (upd H5 l (.tup us)) p = none → Q (.ref p) (upd (upd H5 l (.tup us)) p (.tup [.str (kindS k), .ref l])) := fun k l hl p hp => by
                have hA6 := (hA5.new (o := .tup us) hl).new (o := .tup [.str (kindS k), .ref l]) hp
                have x1 := Ex.new (o := .tup us) (hA5.nh hl)
                have x2 := Ex.new (o := .tup [.str (kindS k), .ref l]) ((hA5.new (o := .tup us) hl).nh hp)
                exact q _ (.node k cs) _ _ (e1.trans (x1.trans x2)) hA6 (.tup upd_same (.cons (.str _) (.cons (.tup (x2 _ _ upd_same) (hr1.mono (x1.trans x2))) .nil))) (hrw k)
              refine ⟨_, rfl, _, _, rfl, rfl, _, rfl, ite2 (fun hb => ?_) (fun hb => ?_)⟩
              · exact ⟨_, rfl, D, us, rfl, .inl ⟨sq_of (hA5.ex _ _ hD1), fun l hl => ⟨by show 2 ≤ sizeLine; decide, fun p hp => fin true l hl p hp⟩⟩⟩
              · exact ⟨_, rfl, D, us, rfl, .inl ⟨sq_of (hA5.ex _ _ hD1), fun l hl => ⟨by show 2 ≤ sizeLine; decide, fun p hp => fin false l hl p hp⟩⟩⟩
theorem wrap_eq (w : Nat) (z : Str) : tl (⟨(List.replicate w 40).toArray⟩ ++ z ++ ⟨(List.replicate w 41).toArray⟩) = wrapN w (tl z) := by
  rw [tl_append, tl_append, List.append_assoc]
  rfl
theorem rt_item {d : Nat} {c : Ci} {s : List Nat} (h : RT d c s) : ∀ {w : Nat}, (1 ≤ w ∨ ∃ z, c = .eye z) → IT (d + w) c (wrapN w s)
  | 0, hw => by
    rcases hw with hw | ⟨z, rfl⟩
    · exact absurd hw (by decide)
    · rw [wrapN_zero]
      cases h with
      | one h => exact h
  | w + 1, _ => h.item w
theorem lenB_2 {m : Nat} (h : m ≤ 2) : lenB m ≤ 276 := by
  match m, h with
  | 0, _ => exact (by decide)
  | 1, _ => exact (by decide)
  | 2, _ => exact (by decide)
theorem ok_law_loose (T : Txt K mg AA) : ∀ n : Nat, Pr P w K mg base "_law_loose" s_law_loose p_law_loose (n + 3) (spLoose n)
  | 0 => by
    obtain ⟨f, fd, F, hb, hm⟩ := T.f_law_loose
    exact ⟨f, fd, hm, F, hb, fun vs H Q E h => by
      obtain ⟨_, _, _, _, _, _, _, _, _, _, h, _⟩ := h
      omega, fun A outer s H args us vs Q E _ _ _ _ h => by
      obtain ⟨_, _, _, _, _, _, _, _, _, _, h, _⟩ := h
      omega⟩
  | n + 1 => by
    have G := ok_law_loose T n
    refine pr_mk T.f_law_loose sc_law_loose (fun vs H Q E h => ?_) (fun f cdv A outer s H vs Q E hr h => ?_)
    · obtain ⟨b, v, c, m, G, rfl, _⟩ := h
      rfl
    · obtain ⟨b, v, c, m, G0, rfl, hAt, hA, hraw, hm3, hmn, q⟩ := h
      refine ⟨_, (pss_cons (ps_if (pt_cmpR op_eq (pe_ix (ix_tupK (K := K) rfl) (pv 1) pe_int (fun _ _ => rfl)) pe_str (nomark _))
      (pss_one (ps_ret (pe_ix (ix_tupK (K := K) rfl) (pv 1) pe_int (fun _ _ => rfl))))
      pss_nil)
      (pss_cons (ps_set (i := 2) sc_law_loose.nd rfl (.inl rfl) (pe_lst pa_nil))
      (pss_cons (ps_for PassesOwn.never rfl (pi_tup (pe_ix (ix_tupK (K := K) rfl) (pv 1) pe_int (fun _ _ => rfl))) (pg_name (i := 3) sc_law_loose.nd rfl (.inl rfl))
      (pss_cons (ps_set (i := 4) sc_law_loose.nd rfl (.inl rfl) (pe_op op_add (pcall (ok_law_of T) hr (pa_cons (pv 0) (pa_cons (pe_lst (pa_cons pe_int (pa_cons pe_int (pa_cons pe_int (pa_cons pe_int (pa_cons pe_int pa_nil)))))) pa_nil))) (pe_ifExp (pt_cmpR op_eq (pe_ix (ix_tupK (K := K) rfl) (pv 3) pe_int (fun _ _ => rfl)) pe_str (nomark _)) pe_int pe_int)))
      (pss_one (ps_expr (pe_bm PySem.F.plainAttrs_list PySem.F.slot_list_append PySem.F.type_list_append mt_append (pv 2) (pa_cons (pe_op op_add_str (pe_op op_add_str (pe_op op_mulS pe_str (pv 4)) (pcall G hr (pa_cons (pv 0) (pa_cons (pv 3) pa_nil)))) (pe_op op_mulS pe_str (pv 4))) pa_nil))))))
      (pss_one (ps_ret (pe_ifExp (pt_cmpR op_eq (pe_ix (ix_tupK (K := K) rfl) (pv 1) pe_int (fun _ _ => rfl)) pe_str (nomark _)) (pe_join pe_str (pv 2)) (pe_join pe_str (pv 2)))))))), ?_⟩
      obtain ⟨a, x, rfl, ha, hx1, hx2⟩ := hA.node
      refine ⟨_, rfl, a, _, 0, _, rfl, rfl, st_of (hAt.ex _ _ ha), rfl, rfl, _, rfl, ?_⟩
      cases c with
      | eye z =>
        refine iteT ?_
        rw [hx1 z rfl] at ha
        have hz : nm z := by
          cases hraw with
          | eye h => exact h
        refine ⟨_, rfl, a, _, 1, _, rfl, rfl, st_of (hAt.ex _ _ ha), rfl, q z _ hAt (.one (.name hz)) ?_⟩
        have := lenB_6 m
        have := hz.2.1
        omega
      | node k ps =>
        have e2 : (decide ((V.str (Ci.node k ps).kind) = V.str (Str.ofString "eye"))) = false := decide_eq_false fun h => kindS_eye k (V.str.inj h)
        rw [e2]
        refine iteF ?_
        obtain ⟨bb, ws, rfl, hb, hr2⟩ := hx2 k ps rfl
        have hwl := hr2.lengthC
        cases m with
        | zero => cases hraw
        | succ m =>
          obtain ⟨p2, p4, praw⟩ := hraw.parts
          refine ⟨by show 0 ≤ sizeLine; decide, fun D hD => ?_⟩
          have hA1 := hAt.new (o := .lst []) hD
          have x1 := Ex.new (o := .lst []) (hAt.nh hD)
          refine ⟨_, rfl, a, _, 1, _, rfl, rfl, st_of (hA1.ex _ _ (x1 _ _ ha)), rfl, bb, rfl, ⟨ws, st_of (hA1.ex _ _ (x1 _ _ hb))⟩, for_tup (xs := ws) (fun i σ H' => ∃ (ss : List Str) (G1 : Hp) (y3 y4 : Option V), σ = [some (.ref b), some (.ref a), some (.ref D), y3, y4] ∧ At b G1 H' ∧ Ex G0 G1 ∧ G1 D = some (.lst (ss.map V.str)) ∧ ITl (3 * (m + 1)) (ps.take i) (ss.map tl) ∧ ∀ s ∈ ss, s.length ≤ lenB m + 6) ⟨[], _, _, _, rfl, hA1, x1, upd_same, .nil, fun s hs => by cases hs⟩ (fun i σ H' _ hp => ?_) (fun i x σ H' hx hp => ?_) (fun σ H' hp => ?_)⟩
          · obtain ⟨ss, G1, y3, y4, rfl, h1, h2, h3, h4, h5⟩ := hp
            exact st_of (h1.ex _ _ (h2 _ _ hb))
          · obtain ⟨ss, G1, y3, y4, rfl, h1, h2, h3, h4, h5⟩ := hp
            obtain ⟨c, hc, hAc⟩ := hr2.getC hx
            have hcm := List.mem_of_getElem? hc
            have hss := h4.len
            rw [List.length_take, List.length_map] at hss
            have hB := lenB_2 (m := m) (by omega)
            obtain ⟨a2, x2, rfl, ha2, hy1, hy2⟩ := hAc.node
            refine ⟨_, rfl, by show 5 ≤ sizeLine; decide, fun p hp => ⟨b, .ref p, _, _, rfl, h1.new hp, .inl ⟨p, rfl, sq_of upd_same⟩, by show 0 < 5; decide, by show 5 < 1073741824; decide, fun ov H3 ho hA3 => ?_⟩⟩
            have hA3 := hA3.weak (Ex.new (h1.nh hp))
            obtain ⟨o, rfl, ho2⟩ : ∃ o : Nat, ov = .int o ∧ o ≤ 2 := by
              simp only [List.mem_cons, List.not_mem_nil, or_false] at ho
              rcases ho with rfl | rfl | rfl | rfl | rfl
              · exact ⟨0, rfl, by omega⟩
              · exact ⟨0, rfl, by omega⟩
              · exact ⟨0, rfl, by omega⟩
              · exact ⟨1, rfl, by omega⟩
              · exact ⟨2, rfl, by omega⟩
            refine ⟨_, rfl, a2, _, 0, _, rfl, rfl, st_of (hA3.ex _ _ (h2 _ _ ha2)), rfl, rfl, _, rfl, ?_⟩
            by_cases hce : ∃ z, c = .eye z
            case' pos =>
              have hk : decide (V.str c.kind = V.str (Str.ofString "eye")) = true := by
                obtain ⟨z, rfl⟩ := hce
                rfl
              rw [hk]
              obtain ⟨w, hw, hw3, hwe⟩ : ∃ w : Nat, (o : Int) + 0 = (w : Int) ∧ w ≤ 3 ∧ (1 ≤ w ∨ ∃ z, c = .eye z) := ⟨o, by omega, by omega, .inr hce⟩
              refine iteT ⟨_, _, rfl, rfl, ?_⟩
            case' neg =>
              have hk : decide (V.str c.kind = V.str (Str.ofString "eye")) = false := by
                cases c with
                | eye z => exact absurd ⟨z, rfl⟩ hce
                | node j qs => exact decide_eq_false fun h => kindS_eye j (V.str.inj h)
              rw [hk]
              obtain ⟨w, hw, hw3, hwe⟩ : ∃ w : Nat, (o : Int) + 1 = (w : Int) ∧ w ≤ 3 ∧ (1 ≤ w ∨ ∃ z, c = .eye z) := ⟨o + 1, by omega, by omega, .inl (by omega)⟩
              refine iteF ⟨_, _, rfl, rfl, ?_⟩
            all_goals
              dsimp only
              rw [hw]
              refine ⟨_, rfl, .inl ⟨rfl, _, sq_of (hA3.ex _ _ h3)⟩, _, rfl, 40, w, rfl, rfl, by omega, _, rfl, _, rfl, b, .ref a2, c, m, G1, rfl, hA3, Rep.mono h2 hAc, praw c hcm, by omega, by omega, fun z H5 hA5 hrt hzl => ?_⟩
              have l1 : (⟨(List.replicate w 40).toArray⟩ : Str).length = w := by
                rw [len_tl]
                show (List.replicate w 40).length = w
                rw [List.length_replicate]
              have l2 : (⟨(List.replicate w 41).toArray⟩ : Str).length = w := by
                rw [len_tl]
                show (List.replicate w 41).length = w
                rw [List.length_replicate]
              have l3 : ((⟨(List.replicate w 40).toArray⟩ : Str) ++ z).length = w + z.length := by
                rw [len_tl, tl_append, List.length_append, ← len_tl, ← len_tl, l1]
              refine ⟨_, _, rfl, rfl, sz_of (by omega), _, rfl, 41, w, rfl, rfl, by omega, _, _, rfl, rfl, sz_of (by omega), D, ss.map V.str, _, rfl, rfl, hA5.ex _ _ h3, sz_lt (by rw [List.length_map]; omega), ss ++ [⟨(List.replicate w 40).toArray⟩ ++ z ++ ⟨(List.replicate w 41).toArray⟩], upd G1 D (.lst ((ss ++ [⟨(List.replicate w 40).toArray⟩ ++ z ++ ⟨(List.replicate w 41).toArray⟩]).map V.str)), _, _, rfl, ?_, h2.mut (hAt.nh hD), upd_same, ?_, ?_⟩
              · rw [List.map_append]
                exact hA5.put' h3
              · rw [List.take_add_one, hc, List.map_append]
                refine h4.snoc ?_
                rw [wrap_eq]
                exact (rt_item hrt hwe).mono (by omega)
              · intro y hy
                rcases List.mem_append.mp hy with hy | hy
                · exact h5 y hy
                · rw [List.mem_singleton.mp hy, len_tl, wrap_eq, wrapN_len, ← len_tl]
                  omega
          · obtain ⟨ss, G1, y3, y4, rfl, h1, h2, h3, h4, h5⟩ := hp
            rw [List.take_of_length_le (by rw [hwl]; exact Nat.le_refl _)] at h4
            have hB := lenB_2 (m := m) (by omega)
            have hss := h4.len
            rw [List.length_map] at hss
            have hkk : decide (V.str (Ci.node k ps).kind = V.str (Str.ofString "pool")) = k := (show ∀ k : Bool, decide (V.str (kindS k) = V.str (Str.ofString "pool")) = k by decide +kernel) k
            refine ⟨_, rfl, a, _, 0, _, rfl, rfl, st_of (h1.ex _ _ (h2 _ _ ha)), rfl, rfl, _, rfl, ?_⟩
            rw [hkk]
            have hrt := rt_join (k := k) h4 p2
            have hsum : (ss.map (·.length)).sum + ss.length * 3 ≤ 16777216 := by
              have h6 := sum_bd (m := lenB m + 6) (ss := ss.map tl) fun s hs => by
                obtain ⟨y, hy, rfl⟩ := List.mem_map.mp hs
                rw [← len_tl]
                exact h5 y hy
              rw [List.map_map, List.length_map] at h6
              have h7 : (ss.map (·.length)).sum = (ss.map (List.length ∘ tl)).sum := by
                refine congrArg List.sum (List.map_congr_left fun y _ => ?_)
                rw [len_tl]
                rfl
              have h8 : ss.length * (lenB m + 6) ≤ 4 * 282 := Nat.mul_le_mul (by omega) (by omega)
              omega
            have hj : ∀ S : Str, tl S = tl (sepS k) → tl (Txt.join S ss) = joinL (tl (sepS k)) (ss.map tl) := fun S hS => by
              rw [TL.join_eq, tl_join, hS]
            have hjl : ∀ S : Str, tl S = tl (sepS k) → (Txt.join S ss).length ≤ lenB (m + 1) := fun S hS => by
              rw [len_tl, hj S hS]
              have h6 := join_bd (k := k) (m := lenB m + 6) (ss := ss.map tl) fun s hs => by
                obtain ⟨y, hy, rfl⟩ := List.mem_map.mp hs
                rw [← len_tl]
                exact h5 y hy
              rw [List.length_map] at h6
              have h8 : ss.length * (lenB m + 6) ≤ 4 * (lenB m + 6) := Nat.mul_le_mul_right _ (by omega)
              show _ ≤ 4 * (lenB m + 6) + 12
              omega
            have hAw := h1.weak h2
            cases k with
            | true => exact iteT ⟨⟨_, rfl⟩, _, rfl, _, D, ss, rfl, rfl, .inl (sq_of (h1.ex _ _ h3)), hsum, q _ _ hAw (Eq.mpr (congrArg (RT _ _) (hj _ rfl)) hrt) (hjl _ rfl)⟩
            | false => exact iteF ⟨⟨_, rfl⟩, _, rfl, _, D, ss, rfl, rfl, .inl (sq_of (h1.ex _ _ h3)), hsum, q _ _ hAw (Eq.mpr (congrArg (RT _ _) (hj _ rfl)) hrt) (hjl _ rfl)⟩
end
end Eyes

set_option Elab.async false
set_option linter.all false
set_option maxRecDepth 100000
set_option maxHeartbeats 4000000
namespace Eyes
open PySem PySem.Spec PyProof.Rows L2 Evl TL
theorem cutS_two (x : Str) (i j : Nat) : cutS x (some (i : Int)) (some (j : Int)) = ⟨(((tl x).take j).drop i).toArray⟩ := by
  refine ext_tl ?_
  show (x.cps.toList.drop _).take _ = ((tl x).take j).drop i
  rw [HT.sIx_nat, HT.sIx_nat, List.drop_take]
  have hl : x.cps.toList.length = x.length := Array.length_toList
  show _ = (x.cps.toList.drop i).take (j - i)
  rcases Nat.le_total i x.length with h | h
  · rw [Nat.min_eq_left h]
    rcases Nat.le_total j x.length with g | g
    · rw [Nat.min_eq_left g]
    · rw [Nat.min_eq_right g, List.take_of_length_le (by rw [List.length_drop]; omega), List.take_of_length_le (by rw [List.length_drop]; omega)]
  · rw [Nat.min_eq_right h, List.drop_of_length_le (by omega), List.drop_of_length_le (i := i) (by omega), List.take_nil, List.take_nil]
def mkS : Option Bool → Str
  | none => ""
  | some k => sgS k
def strL (l : List Nat) : Str := ⟨l.toArray⟩
theorem putC_size : ∀ c : Ci, c.ok → ∀ t, putC .eye c = .yes t → t.size ≤ c.size
  | .eye n, _, t, h => by
    cases h
    exact Nat.le_refl _
  | .node k ps, hok, t, h => by
    rw [putC_node] at h
    cases h1 : putsC .eye ps with
    | no z =>
      rw [h1] at h
      cases h
    | yes cs =>
      rw [h1] at h
      have h : chk (mkC k cs) = .yes t := h
      have hcs := putsC_nice (fun n hn => eye_nice hn) ps hok.2 cs h1
      have h2 : ∀ {ps cs : List Ci}, (∀ c ∈ ps, ∀ t, putC .eye c = .yes t → t.size ≤ c.size) → putsC .eye ps = .yes cs → sizes cs ≤ sizes ps := by
        intro ps
        induction ps with
        | nil =>
          intro cs _ h
          cases h
          exact Nat.le_refl _
        | cons c r ih =>
          intro cs hh h
          unfold putsC at h
          cases g1 : putC .eye c with
          | no z => rw [g1] at h; cases h
          | yes d =>
            rw [g1] at h
            cases g2 : putsC .eye r with
            | no z => rw [g2] at h; cases h
            | yes ds =>
              rw [g2] at h
              cases h
              have a := hh c List.mem_cons_self d g1
              have b := ih (fun e he => hh e (List.mem_cons_of_mem _ he)) g2
              show d.size + sizes ds ≤ c.size + sizes r
              omega
      have h3 := h2 (fun c hc t ht => putC_size c (oks_mem.mp hok.2 c hc) t ht) h1
      unfold chk at h
      cases ho : over (mkC k cs) with
      | some z => rw [ho] at h; cases h
      | none =>
        rw [ho] at h
        cases h
        exact Nat.le_trans (mk_size fun c hc => (hcs c hc).1) h3
theorem putsC_size {ps cs : List Ci} (hok : oks ps) (h : putsC .eye ps = .yes cs) : sizes cs ≤ sizes ps := by
  induction ps generalizing cs with
  | nil =>
    cases h
    exact Nat.le_refl _
  | cons c r ih =>
    unfold putsC at h
    cases g1 : putC .eye c with
    | no z => rw [g1] at h; cases h
    | yes d =>
      rw [g1] at h
      cases g2 : putsC .eye r with
      | no z => rw [g2] at h; cases h
      | yes ds =>
        rw [g2] at h
        cases h
        have a := putC_size c hok.1 d g1
        have b := ih hok.2 g2
        show d.size + sizes ds ≤ c.size + sizes r
        omega
def spGood (n : Nat) : Sp := fun vs H Q _ => ∃ (z : Str) (c : Ci) (d : Nat), vs = [.str z] ∧ z.length ≤ 16000 ∧ c.size ≤ 6000 ∧ ((IT d c (tl z) ∧ 2 * d < n) ∨ (RT d c (tl z) ∧ 2 * d + 1 < n)) ∧ ∀ v H', Ex H H' → Rep H' v (rsData (putC .eye c)) → Q v H'
theorem sign_eq (x c : Nat) : decide (V.str ⟨#[x]⟩ = V.str ⟨#[c]⟩) = decide (x = c) := by
  have h := one_eq (some x) c
  have e : decide (some x = some c) = decide (x = c) := by
    by_cases g : x = c
    · subst g
      exact (decide_eq_true rfl).trans (decide_eq_true rfl).symm
    · exact (decide_eq_false fun z => g (Option.some.inj z)).trans (decide_eq_false g).symm
  exact h.trans e
theorem ITl.get {d : Nat} : ∀ {ps : List Ci} {ss : List (List Nat)} {i : Nat} {s : List Nat}, ITl d ps ss → ss[i]? = some s → ∃ c, ps[i]? = some c ∧ IT d c s
  | _, _, 0, _, h, e => by
    cases h with
    | nil => simp at e
    | cons h hl =>
      cases e
      exact ⟨_, rfl, h⟩
  | _, _, i + 1, _, h, e => by
    cases h with
    | nil => simp at e
    | cons h hl =>
      rw [List.getElem?_cons_succ] at e ⊢
      exact ITl.get hl e
theorem ITl.head {d : Nat} {k : Bool} {ps : List Ci} {ss : List (List Nat)} (h : ITl d ps ss) (h2 : 2 ≤ ps.length) : ∃ x r, joinL (tl (sepS k)) ss = x :: r ∧ x ≠ 38 ∧ x ≠ 124 ∧ x ≠ 41 := by
  cases h with
  | nil => exact absurd h2 (by decide)
  | cons h hl =>
    obtain ⟨x, r, e, g⟩ := h.head
    rw [joinL_tail, e]
    exact ⟨x, _, rfl, g⟩
theorem ITl.short {d : Nat} {k : Bool} {ps : List Ci} {ss : List (List Nat)} (h : ITl d ps ss) {s : List Nat} (hs : s ∈ ss) : s.length ≤ (joinL (tl (sepS k)) ss).length := by
  have : ∀ {ss : List (List Nat)}, s ∈ ss → s.length ≤ (tailJ k ss).length := by
    intro ss
    induction ss with
    | nil => intro h; cases h
    | cons t r ih =>
      intro h
      show _ ≤ (32 :: sgnN k :: 32 :: (t ++ tailJ k r)).length
      rw [List.length_cons, List.length_cons, List.length_cons, List.length_append]
      rcases List.mem_cons.mp h with rfl | h
      · omega
      · have := ih h
        omega
  cases ss with
  | nil => cases hs
  | cons t r =>
    rw [joinL_tail, List.length_append]
    rcases List.mem_cons.mp hs with rfl | hs
    · omega
    · have := this hs
      omega
section
variable {P : Program} {w : World} {K : PySem.W.Frag} {mg : Str → Option Value} {base : Heap} {AA : Adr}
theorem ok_law_read_good (T : Txt K mg AA) : ∀ n : Nat, Pr P w K mg base "_law_read_good" s_law_read_good p_law_read_good (n + 28) (spGood n)
  | 0 => by
    obtain ⟨f, fd, F, hb, hm⟩ := T.f_law_read_good
    exact ⟨f, fd, hm, F, hb, fun vs H Q E h => by
      obtain ⟨_, _, _, _, _, _, h, _⟩ := h
      omega, fun A outer s H args us vs Q E _ _ _ _ h => by
      obtain ⟨_, _, _, _, _, _, h, _⟩ := h
      omega⟩
  | n + 1 => by
    have G := ok_law_read_good T n
    refine pr_mk T.f_law_read_good sc_law_read_good (fun vs H Q E h => ?_) (fun f cdv A outer s H vs Q E hr h => ?_)
    · obtain ⟨z, c, d, rfl, _⟩ := h
      rfl
    · obtain ⟨z, c, d, rfl, hz, hcs, hrt, q⟩ := h
      refine ⟨_, (pss_cons (ps_asg (pe_tup (pa_cons (pe_lst pa_nil) (pa_cons pe_str (pa_cons pe_int (pa_cons pe_int pa_nil))))) (pg_tup (by rfl) (pgs_cons (pg_name (i := 1) sc_law_read_good.nd rfl (.inl rfl)) (pgs_cons (pg_name (i := 2) sc_law_read_good.nd rfl (.inl rfl)) (pgs_cons (pg_name (i := 3) sc_law_read_good.nd rfl (.inl rfl)) (pgs_cons (pg_name (i := 4) sc_law_read_good.nd rfl (.inl rfl)) pgs_nil))))))
      (pss_cons (ps_for PassesOwn.never rfl (pi_range1 (by rfl) T.n_range (pa_cons (pe_callB call_len_str (by rfl) T.n_len PySem.boot_len (pa_cons (pv 0) pa_nil)) pa_nil)) (pg_name (i := 5) sc_law_read_good.nd rfl (.inl rfl))
      (Evl.pss_cut (ps_if (pt_cmpR op_eq (pe_ix ix_str (pv 0) (pv 5) (fun _ _ => rfl)) pe_str (nomark _))
      (pss_one (ps_set (i := 3) sc_law_read_good.nd rfl (.inl rfl) (pe_op op_add (pv 3) pe_int)))
      pss_nil)
      (Evl.pss_cut (ps_if (pt_cmpR op_eq (pe_ix ix_str (pv 0) (pv 5) (fun _ _ => rfl)) pe_str (nomark _))
      (pss_one (ps_set (i := 3) sc_law_read_good.nd rfl (.inl rfl) (pe_op op_sub (pv 3) pe_int)))
      pss_nil)
      (pss_one (ps_if (PW.pt (pw_and (pt_cmpR op_eq (pv 3) pe_int (nomark _)) (pw_and1 (pt_cmpR op_in_sign (pe_ix ix_str (pv 0) (pv 5) (fun _ _ => rfl)) pe_str rfl))))
      (pss_cons (ps_set (i := 2) sc_law_read_good.nd rfl (.inl rfl) (pe_ix ix_str (pv 0) (pv 5) (fun _ _ => rfl)))
      (pss_cons (ps_expr (pe_bm PySem.F.plainAttrs_list PySem.F.slot_list_append PySem.F.type_list_append mt_append (pv 1) (pa_cons (pe_slice sl_str (pv 0) (po_some (pv 4)) (po_some (pe_op op_sub (pv 5) pe_int))) pa_nil)))
      (pss_one (ps_set (i := 4) sc_law_read_good.nd rfl (.inl rfl) (pe_op op_add (pv 5) pe_int)))))
      pss_nil)))))
      (pss_cons (ps_expr (pe_bm PySem.F.plainAttrs_list PySem.F.slot_list_append PySem.F.type_list_append mt_append (pv 1) (pa_cons (pe_slice sl_str (pv 0) (po_some (pv 4)) po_none) pa_nil)))
      (pss_cons (ps_if (pt_cmpR op_eq (pv 2) pe_str (nomark _))
      (pss_one (ps_ret (pe_ifExp (pt_cmpR op_ne (pe_ix ix_str (pv 0) pe_int (fun _ _ => rfl)) pe_str (nomark _)) (pe_tup (pa_cons pe_str (pa_cons (pe_tup (pa_cons pe_str (pa_cons (pv 0) pa_nil))) pa_nil))) (pcall G hr (pa_cons (pe_slice sl_str (pv 0) (po_some pe_int) (po_some (pe_op op_sub (pe_callB call_len_str (by rfl) T.n_len PySem.boot_len (pa_cons (pv 0) pa_nil)) pe_int))) pa_nil)))))
      pss_nil)
      (pss_cons (ps_set (i := 6) sc_law_read_good.nd rfl (.inl rfl) (pe_lst pa_nil))
      (pss_cons (ps_for PassesOwn.never rfl (pi_list (pv 1)) (pg_name (i := 7) sc_law_read_good.nd rfl (.inl rfl))
      (pss_cons (ps_set (i := 8) sc_law_read_good.nd rfl (.inl rfl) (pcall G hr (pa_cons (pv 7) pa_nil)))
      (pss_cons (ps_if (pt_cmpR op_ne (pe_ix (ix_tupK (K := K) rfl) (pv 8) pe_int (fun _ _ => rfl)) pe_str (nomark _))
      (pss_one (ps_ret (pv 8)))
      pss_nil)
      (pss_one (ps_expr (pe_bm PySem.F.plainAttrs_list PySem.F.slot_list_append PySem.F.type_list_append mt_append (pv 6) (pa_cons (pe_ix (ix_tupK (K := K) rfl) (pv 8) pe_int (fun _ _ => rfl)) pa_nil)))))))
      (pss_one (ps_ret (pcall (ok_law_checked T) hr (pa_cons (pe_ifExp (pt_cmpR op_eq (pv 2) pe_str (nomark _)) pe_str pe_str) (pa_cons (pv 6) pa_nil))))))))))), ?_⟩
      have hzl : (tl z).length = z.length := (len_tl z).symm
      have hcase : (IT d c (tl z) ∧ 2 * d < n + 1) ∨ ∃ k ps ss, c = .node k ps ∧ ITl d ps ss ∧ 2 ≤ ps.length ∧ tl z = joinL (tl (sepS k)) ss ∧ 2 * d + 1 < n + 1 := by
        rcases hrt with h | ⟨h, hn⟩
        · exact .inl h
        · generalize hs : tl z = s at h
          cases h with
          | one h => exact .inl ⟨h, by omega⟩
          | row h hl hne =>
            have := List.length_pos_iff.mpr hne
            exact .inr ⟨_, _, _, rfl, .cons h hl, by rw [List.length_cons]; omega, rfl, hn⟩
      have hhead : ∃ x r, tl z = x :: r ∧ x ≠ 38 ∧ x ≠ 124 ∧ x ≠ 41 := by
        rcases hcase with ⟨h, _⟩ | ⟨k, ps, ss, _, h, h2, e, _⟩
        · exact h.head
        · rw [e]
          exact h.head h2
      refine ⟨by show 0 ≤ sizeLine; decide, fun D hD => ⟨by show 4 ≤ sizeLine; decide, fun tt htt => ⟨tt, _, rfl, st_of upd_same, rfl, _, _, rfl, _, _, rfl, _, _, rfl, _, _, rfl, rfl, ?_⟩⟩⟩
      refine ⟨_, rfl, z, rfl, sz_of (by omega), _, rfl, by omega, by omega, ?_⟩
      refine for_it walk_range (fun i σ H' => ∃ (y5 y6 y7 y8 : Option V), σ = [some (.str z), some (.ref D), some (.str (mkS (cutN (tl z) i).sg)), some (.int (cutN (tl z) i).op), some (.int ((cutN (tl z) i).bg : Int)), y5, y6, y7, y8] ∧ Ex H H' ∧ H' D = some (.lst ((cutN (tl z) i).pcs.map fun l => V.str (strL l))) ∧ (cutN (tl z) i).pcs.length ≤ i) ⟨none, none, none, none, rfl, (Ex.new hD).trans (Ex.new htt), Ex.new htt _ _ upd_same, Nat.le_refl _⟩ (fun _ _ _ _ _ => True.intro) (fun i v σ H3 H4 hi hp hy => ?_) (fun σ H' hp => ?_)
      · obtain ⟨rfl, rfl⟩ := hy
        obtain ⟨y5, y6, y7, y8, rfl, e1, h1, h2⟩ := hp
        show gName 5 (V.int (0 + (i : Int))) _ _ _
        rw [Int.zero_add]
        have hi : i < (tl z).length := by rw [hzl]; omega
        obtain ⟨x, hx⟩ : ∃ x, (tl z)[i]? = some x := ⟨(tl z)[i], List.getElem?_eq_getElem hi⟩
        have hgd : (tl z).getD i 0 = x := by rw [List.getD_eq_getElem?_getD, hx]; rfl
        have hcn : cutN (tl z) (i + 1) = cutS1 (tl z) (cutN (tl z) i) i x := by
          show cutS1 (tl z) (cutN (tl z) i) i ((tl z).getD i 0) = _
          rw [hgd]
        have hx' : atI z.cps.toList (i : Int) = some x := at_of' (by omega) hx
        generalize hC : cutN (tl z) i = C at h1 h2 hcn ⊢
        refine ⟨fun σ H' => σ = [some (.str z), some (.ref D), some (.str (mkS C.sg)), some (.int (if x = 40 then C.op + 1 else C.op)), some (.int (C.bg : Int)), some (.int (i : Int)), y6, y7, y8] ∧ Ex H H' ∧ H' D = some (.lst (C.pcs.map fun l => V.str (strL l))), ?_, fun σ H5 hM => ?_⟩
        · refine ⟨_, rfl, _, rfl, z, _, x, rfl, rfl, sz_of (by omega), hx', rfl, _, rfl, ?_⟩
          show if decide (V.str ⟨#[x]⟩ = V.str ⟨#[40]⟩) = true then _ else _
          rw [sign_eq]
          by_cases h40 : x = 40
          · rw [decide_eq_true h40, if_pos h40]
            exact iteT ⟨_, rfl, _, _, rfl, rfl, rfl, e1, h1⟩
          · rw [decide_eq_false h40, if_neg h40]
            exact iteF ⟨rfl, e1, h1⟩
        obtain ⟨rfl, e1, h1⟩ := hM
        refine ⟨fun σ H' => σ = [some (.str z), some (.ref D), some (.str (mkS C.sg)), some (.int (opN C.op x)), some (.int (C.bg : Int)), some (.int (i : Int)), y6, y7, y8] ∧ Ex H H' ∧ H' D = some (.lst (C.pcs.map fun l => V.str (strL l))), ?_, fun σ H6 hM => ?_⟩
        · refine ⟨_, rfl, _, rfl, z, _, x, rfl, rfl, sz_of (by omega), hx', rfl, _, rfl, ?_⟩
          show if decide (V.str ⟨#[x]⟩ = V.str ⟨#[41]⟩) = true then _ else _
          rw [sign_eq]
          unfold opN
          by_cases h41 : x = 41
          · subst h41
            exact iteT ⟨_, rfl, _, _, rfl, rfl, rfl, e1, h1⟩
          · rw [decide_eq_false h41, if_neg h41]
            exact iteF ⟨rfl, e1, h1⟩
        obtain ⟨rfl, e1, h1⟩ := hM
        have hin : decide (x ∈ (Str.ofString "&|").cps.toList) = decide (x = 38 ∨ x = 124) := by
          have : (Str.ofString "&|").cps.toList = [38, 124] := by decide +kernel
          rw [this]
          simp
        refine ⟨_, rfl, rfl, _, rfl, ?_⟩
        by_cases h0 : opN C.op x = 0
        · rw [decide_eq_true (show V.int (opN C.op x) = V.int 0 by rw [h0])]
          refine iteT ⟨_, rfl, _, rfl, z, _, x, rfl, rfl, sz_of (by omega), hx', x, _, rfl, rfl, _, rfl, ?_⟩
          rw [hin]
          by_cases hs : x = 38 ∨ x = 124
          · rw [decide_eq_true hs]
            have hi1 : 1 ≤ i := by
              rcases Nat.eq_zero_or_pos i with rfl | h
              · obtain ⟨y, r, e, g1, g2, _⟩ := hhead
                rw [e] at hx
                cases hx
                omega
              · exact h
            have ec : cutS z (some (C.bg : Int)) (some ((i : Int) - 1)) = strL (((tl z).take (i - 1)).drop C.bg) := by
              rw [show ((i : Int) - 1) = ((i - 1 : Nat) : Int) by omega, cutS_two]
              rfl
            have hsg : sgn? x ≠ none := by
              unfold sgn?
              rcases hs with rfl | rfl
              · exact fun h => nomatch h
              · exact fun h => nomatch h
            have hmk : V.str (⟨#[x]⟩ : Str) = V.str (mkS (sgn? x)) := by
              rcases hs with rfl | rfl <;> rfl
            have hcn' : cutN (tl z) (i + 1) = ⟨C.pcs ++ [((tl z).take (i - 1)).drop C.bg], sgn? x, opN C.op x, i + 2⟩ := by
              rw [hcn]
              unfold cutS1
              rw [if_pos ⟨h0, hsg⟩]
            refine iteT ⟨_, rfl, _, rfl, z, _, x, rfl, rfl, sz_of (by omega), hx', _, rfl, .inl ⟨rfl, _, sq_of h1⟩, _, rfl, _, rfl, _, rfl, _, rfl, _, _, rfl, rfl, _, rfl, z, rfl, sz_of (by omega), ?_⟩
            rw [ec]
            refine ⟨D, _, _, rfl, rfl, h1, sz_lt (by rw [List.length_map]; omega), _, rfl, _, _, rfl, rfl, ?_⟩
            rw [hcn']
            refine ⟨some (.int (i : Int)), y6, y7, y8, ?_, e1.mut hD, ?_, by rw [List.length_append]; show C.pcs.length + 1 ≤ i + 1; omega⟩
            · rw [← hmk]
              rfl
            · rw [upd_same, List.map_append]
              rfl
          · rw [decide_eq_false hs]
            have hsg : sgn? x = none := by
              unfold sgn?
              rw [if_neg (by omega), if_neg (by omega)]
            have hcn' : cutN (tl z) (i + 1) = { C with op := opN C.op x } := by
              rw [hcn]
              unfold cutS1
              rw [if_neg fun g => g.2 hsg]
            rw [hcn']
            exact iteF ⟨_, _, _, _, rfl, e1, h1, by show C.pcs.length ≤ i + 1; omega⟩
        · rw [decide_eq_false (show ¬ V.int (opN C.op x) = V.int 0 from fun h => h0 (V.int.inj h))]
          have hcn' : cutN (tl z) (i + 1) = { C with op := opN C.op x } := by
            rw [hcn]
            unfold cutS1
            rw [if_neg fun g => h0 g.1]
          rw [hcn']
          exact iteF (iteF ⟨_, _, _, _, rfl, e1, h1, by show C.pcs.length ≤ i + 1; omega⟩)
      · obtain ⟨y5, y6, y7, y8, rfl, e1, h1, h2⟩ := hp
        have hnz : ((z.length : Nat) : Int).toNat = (tl z).length := by rw [hzl]; omega
        rcases hcase with ⟨hI, hn⟩ | ⟨k, ps, ss, rfl, hl, hp2, hxs, hn⟩
        · -- one item
          have hc := cut_alone hI
          rw [← hnz] at hc
          rw [hc] at h1 h2 ⊢
          have ec0 : ∀ b : Nat, cutS z (some (b : Int)) none = strL ((tl z).drop b) := fun b => cutS_from z b
          refine ⟨_, rfl, .inl ⟨rfl, _, sq_of h1⟩, _, rfl, _, rfl, _, rfl, z, rfl, sz_of (by omega), D, _, _, rfl, rfl, h1, sz_lt (by rw [List.length_map]; omega), ?_⟩
          refine ⟨_, rfl, rfl, _, rfl, iteT ?_⟩
          have e2 : Ex H (upd H' D (.lst _)) := e1.mut (o := .lst (([] : List (List Nat)).map (fun l => V.str (strL l)) ++ [V.str (cutS z (some ((0 : Nat) : Int)) none)])) hD
          generalize upd H' D (.lst (([] : List (List Nat)).map (fun l => V.str (strL l)) ++ [V.str (cutS z (some ((0 : Nat) : Int)) none)])) = H2 at e2 ⊢
          generalize hs : tl z = s at hI
          cases hI with
          | name hnm =>
            rename_i nn
            have ez : z = nn := ext_tl hs
            subst ez
            obtain ⟨x, g1, g2, g3⟩ := nm_head hnm []
            rw [List.append_nil] at g1
            have hx0 : (tl z)[0]? = some x := by rw [← List.head?_eq_getElem?]; exact g1
            refine ⟨_, rfl, z, 0, x, rfl, rfl, sz_of (by omega), at_of' (by decide) hx0, rfl, _, rfl, ?_⟩
            show if (!decide (V.str ⟨#[x]⟩ = V.str ⟨#[40]⟩)) = true then _ else _
            rw [sign_eq, decide_eq_false (by omega)]
            refine iteT ⟨_, rfl, by show 2 ≤ sizeLine; decide, fun p hp => ⟨by show 2 ≤ sizeLine; decide, fun p2 hp2 => ?_⟩⟩
            exact q _ _ (e2.trans ((Ex.new hp).trans (Ex.new hp2))) (.tup upd_same (.cons (.str _) (.cons (.tup (Ex.new hp2 _ _ upd_same) (.cons (.str _) (.cons (.str _) .nil))) .nil)))
          | par hR =>
            rename_i d s
            have hx0 : (tl z)[0]? = some 40 := by rw [hs]; rfl
            have hln : z.length = s.length + 2 := by
              rw [← hzl, hs, List.length_cons, List.length_append]
              rfl
            refine ⟨_, rfl, z, 0, 40, rfl, rfl, sz_of (by omega), at_of' (by decide) hx0, rfl, _, rfl, iteF ?_⟩
            have ec : cutS z (some 1) (some (((z.length : Nat) : Int) - 1)) = strL s := by
              rw [show (((z.length : Nat) : Int) - 1) = ((s.length + 1 : Nat) : Int) by omega, show (1 : Int) = ((1 : Nat) : Int) from rfl, cutS_two, hs]
              refine ext_tl ?_
              show (List.take (s.length + 1) (40 :: (s ++ [41]))).drop 1 = s
              rw [List.take_succ_cons, List.drop_succ_cons, List.drop_zero, List.take_left]
            refine ⟨_, rfl, _, rfl, _, rfl, z, rfl, sz_of (by omega), _, _, rfl, rfl, _, rfl, z, rfl, sz_of (by omega), ?_⟩
            rw [ec]
            refine ⟨strL s, c, d, rfl, ?_, hcs, .inr ⟨hR, by omega⟩, fun v H3 e3 hv => q v H3 (e2.trans e3) hv⟩
            show s.length ≤ 16000
            omega
        · -- a row
          obtain ⟨ps', b, hcw, hps⟩ := cut_whole hl hp2 hxs
          rw [← hnz] at hcw
          rw [hcw] at h1 h2 ⊢
          have ec : cutS z (some (b : Int)) none = strL ((tl z).drop b) := cutS_from z b
          have hlen : ss.length = ps.length := hl.len.symm
          have hpl : ps'.length + 1 = ss.length := by rw [← hps, List.length_append]; rfl
          have h2 : ps'.length ≤ ((z.length : Nat) : Int).toNat := h2
          have hpz : ps'.length ≤ z.length := by omega
          refine ⟨_, rfl, .inl ⟨rfl, _, sq_of h1⟩, _, rfl, _, rfl, _, rfl, z, rfl, sz_of (by omega), D, _, _, rfl, rfl, h1, sz_lt (by rw [List.length_map]; show ps'.length < _; omega), ?_⟩
          show tSeq _ _ _ _ (upd H' D (.lst (ps'.map (fun l => V.str (strL l)) ++ [V.str (cutS z (some (b : Int)) none)])))
          have el : ps'.map (fun l => V.str (strL l)) ++ [V.str (cutS z (some (b : Int)) none)] = ss.map fun l => V.str (strL l) := by
            rw [ec, ← hps, List.map_append]
            rfl
          rw [el]
          have e2 : Ex H (upd H' D (.lst (ss.map fun l => V.str (strL l)))) := e1.mut hD
          have hD2 := upd_same (H := H') (a := D) (o := HO.lst (ss.map fun l => V.str (strL l)))
          generalize upd H' D (.lst (ss.map fun l => V.str (strL l))) = H2 at e2 hD2 ⊢
          have hmk : decide (V.str (mkS (some k)) = V.str (Str.ofString "")) = false := by cases k <;> decide +kernel
          refine ⟨_, rfl, rfl, _, rfl, ?_⟩
          show if decide (V.str (mkS (some k)) = V.str (Str.ofString "")) = true then _ else _
          rw [hmk]
          refine iteF ⟨by show 0 ≤ sizeLine; decide, fun D2 hD2n => ?_⟩
          have hDD : D ≠ D2 := fun e => by
            rw [e, hD2n] at hD2
            cases hD2
          have hok : oks ps := by
            have : ∀ {ps ss}, ITl d ps ss → oks ps := fun {ps ss} h => oks_mem.mpr (ITl.facts k h).1
            exact this hl
          have hD2H : H D2 = none := fresh_back e2 hD2n
          refine ⟨_, rfl, D, rfl, ⟨_, sq_of ((upd_ne hDD).trans hD2)⟩, for_list (xs := ss.map fun l => V.str (strL l)) (fun i σ H3 => ∃ (us : List V) (cs : List Ci) (y7 y8 : Option V), σ = [some (.str z), some (.ref D), some (.str (mkS (some k))), some (.int 0), some (.int (b : Int)), y5, some (.ref D2), y7, y8] ∧ Ex H H3 ∧ H3 D = some (.lst (ss.map fun l => V.str (strL l))) ∧ H3 D2 = some (.lst us) ∧ Reps H3 us (datas cs) ∧ putsC .eye (ps.take i) = .yes cs) ⟨[], [], _, _, rfl, e2.trans (Ex.new hD2n), (upd_ne hDD).trans hD2, upd_same, .nil, rfl⟩ (fun i σ H3 _ hp => ?_) (fun i x σ H3 hx hp => ?_) (fun σ H3 hp => ?_)⟩
          · obtain ⟨us, cs, y7, y8, rfl, a1, a2, a3, a4, a5⟩ := hp
            exact sq_of a2
          · obtain ⟨us, cs, y7, y8, rfl, a1, a2, a3, a4, a5⟩ := hp
            rw [List.getElem?_map] at hx
            obtain ⟨s, hs, rfl⟩ := Option.map_eq_some_iff.mp hx
            obtain ⟨c, hc, hI⟩ := hl.get hs
            have hcm := List.mem_of_getElem? hc
            have hsl := hl.short (k := k) (List.mem_of_getElem? hs)
            rw [← hxs] at hsl
            have hcz : c.size ≤ sizes ps := sizes_mem hcm
            have hcs' : sizes ps ≤ 6000 := hcs
            have hul := a4.lengthC
            have hcl := putsC_len a5
            rw [List.length_take] at hcl
            have hi : i < ss.length := (List.getElem?_eq_some_iff.mp hs).1
            refine ⟨_, rfl, strL s, c, d, rfl, ?_, by omega, .inl ⟨hI, by omega⟩, fun v H4 e4 hv => ?_⟩
            · show s.length ≤ 16000
              omega
            · cases hput : putC .eye c with
              | no y =>
                rw [hput] at hv
                obtain ⟨p, p2, rfl, hp, hp2⟩ := hv.rs_no
                refine ⟨_, rfl, p, _, 0, _, rfl, rfl, st_of hp, rfl, rfl, _, rfl, iteT ⟨_, rfl, q _ _ (a1.trans e4) ?_⟩⟩
                rw [putC_node, putsC_cut a5 hc hput]
                exact hv
              | yes t =>
                rw [hput] at hv
                obtain ⟨p, x, rfl, hp, hx⟩ := hv.rs_yes
                refine ⟨_, rfl, p, _, 0, _, rfl, rfl, st_of hp, rfl, rfl, _, rfl, iteF ⟨_, rfl, .inl ⟨rfl, _, sq_of (e4 _ _ a3)⟩, _, rfl, p, _, 1, _, rfl, rfl, st_of hp, rfl, D2, us, _, rfl, rfl, e4 _ _ a3, sz_lt (by omega), ?_⟩⟩
                refine ⟨us ++ [x], cs ++ [t], _, _, rfl, (a1.trans e4).mut hD2H, (upd_ne hDD).trans (e4 _ _ a2), upd_same, ?_, ?_⟩
                · rw [datas_append]
                  exact (Reps.lstUp (e4 _ _ a3) (a4.mono e4)).append (.cons (Rep.lstUp (e4 _ _ a3) hx) .nil)
                · rw [putsC_snoc a5 hc, hput]
                  rfl
          · obtain ⟨us, cs, y7, y8, rfl, a1, a2, a3, a4, a5⟩ := hp
            rw [List.take_of_length_le (by rw [List.length_map, hlen]; exact Nat.le_refl _)] at a5
            have hcl := putsC_len a5
            have hcn := putsC_nice (fun n hn => eye_nice hn) ps hok cs a5
            have hcz := putsC_size hok a5
            have hcs' : sizes ps ≤ 6000 := hcs
            have fin : spChecked K [.str (kindS k), .ref D2] H3 Q (fun _ _ _ => False) := by
              refine ⟨D2, us, k, cs, rfl, sq_of a3, a4, hcn, fun e => ?_, by omega, fun v H4 e4 hv => q v H4 (a1.trans e4) ?_⟩
              · rw [e, List.length_nil] at hcl
                omega
              · rw [putC_node, a5]
                exact hv
            have hmk2 : decide (V.str (mkS (some k)) = V.str (Str.ofString "&")) = k := by cases k <;> decide +kernel
            refine ⟨_, rfl, rfl, _, rfl, ?_⟩
            show if decide (V.str (mkS (some k)) = V.str (Str.ofString "&")) = true then _ else _
            rw [hmk2]
            cases k with
            | true => exact iteT ⟨_, rfl, fin⟩
            | false => exact iteF ⟨_, rfl, fin⟩
end
end Eyes

set_option Elab.async false
set_option linter.all false
set_option maxRecDepth 100000
set_option maxHeartbeats 4000000
/-! The reader against the law's own scan, sign by sign. -/
namespace Eyes
open PySem PySem.Spec PyProof.Rows L2 Evl TL
structure Au where
  mks : List (Option Bool)
  st : Nat
  lt : Nat
def goA (a : Au) (x : Nat) : Bool :=
  if isL x = true then (a.st == 0 || (a.st == 1 && decide (a.lt < 6)))
  else if x = 40 then (a.st == 0 && decide (a.mks.length < 21))
  else if x = 41 then ((a.st == 1 || a.st == 2) && decide (1 < a.mks.length))
  else if x = 32 then (a.st == 1 || a.st == 2 || a.st == 4)
  else if x = 38 ∨ x = 124 then (a.st == 3 && (a.mks.head? == some none || a.mks.head? == some (sgn? x)))
  else false
def nxA (a : Au) (x : Nat) : Au :=
  if isL x = true then ⟨a.mks, 1, if a.st = 1 then a.lt + 1 else 1⟩
  else if x = 40 then ⟨none :: a.mks, a.st, a.lt⟩
  else if x = 41 then ⟨a.mks.tail, 2, a.lt⟩
  else if x = 32 then ⟨a.mks, if a.st = 4 then 0 else 3, a.lt⟩
  else if x = 38 ∨ x = 124 then ⟨sgn? x :: a.mks.tail, 4, a.lt⟩
  else a
def accA (a : Au) : Bool := (a.st == 1 || a.st == 2) && a.mks.length == 1
def runA (a : Au) : List Nat → Nat → Nat × Bool
  | [], k => (k, accA a)
  | x :: r, k => if goA a x = true then runA (nxA a x) r (k + 1) else (k, false)
def atA (xs : List Nat) (a : Au) (i : Nat) : Nat × Bool := runA a (xs.drop i) i
def scanA (xs : List Nat) : Nat × Bool := atA xs ⟨[none], 0, 0⟩ 0
section
variable {xs : List Nat}
theorem at_some {a : Au} {i x : Nat} (h : xs[i]? = some x) : atA xs a i = if goA a x = true then atA xs (nxA a x) (i + 1) else (i, false) := by
  unfold atA
  have hi := (List.getElem?_eq_some_iff.mp h)
  obtain ⟨hi, hx⟩ := hi
  rw [List.drop_eq_getElem_cons hi, hx]
  rfl
theorem at_none {a : Au} {i : Nat} (h : xs[i]? = none) : atA xs a i = (i, accA a) := by
  unfold atA
  rw [List.drop_of_length_le (List.getElem?_eq_none_iff.mp h)]
  rfl
def Beh (xs : List Nat) (s l j : Nat) : Prop := s = 2 ∨ (s = 1 ∧ 1 ≤ l ∧ l ≤ 6 ∧ ∀ x, xs[j]? = some x → isL x = true → l = 6)
theorem low32 : isL 32 = false := by decide
theorem low40 : isL 40 = false := by decide
theorem low41 : isL 41 = false := by decide
theorem low38 : isL 38 = false := by decide
theorem low124 : isL 124 = false := by decide
theorem name_run (m : List (Option Bool)) : ∀ (n : Nat) {i l : Nat}, 1 ≤ l → l ≤ 6 → n = 6 - l → ∃ l', 1 ≤ l' ∧ l' ≤ 6 ∧ l' = l + (((xs.drop i).takeWhile isL).take (6 - l)).length ∧ atA xs ⟨m, 1, l⟩ i = atA xs ⟨m, 1, l'⟩ (i + (((xs.drop i).takeWhile isL).take (6 - l)).length) ∧ ∀ x, xs[i + (((xs.drop i).takeWhile isL).take (6 - l)).length]? = some x → isL x = true → l' = 6
  | 0, i, l, h1, h6, hn => by
    have : l = 6 := by omega
    subst this
    exact ⟨6, by decide, by decide, by simp, by simp, fun _ _ _ => rfl⟩
  | n + 1, i, l, h1, h6, hn => by
    have e6 : 6 - l = n + 1 := hn.symm
    rw [e6]
    cases hd : xs.drop i with
    | nil =>
      refine ⟨l, h1, h6, rfl, rfl, fun x hx _ => ?_⟩
      have h2 := getAt hd
      have hx : xs[i]? = some x := hx
      rw [h2] at hx
      cases hx
    | cons x r =>
      have h2 : xs[i]? = some x := getAt hd
      cases hx : isL x with
      | false =>
        have e : ((x :: r).takeWhile isL) = [] := List.takeWhile_cons_of_neg (by rw [hx]; exact Bool.false_ne_true)
        rw [e]
        refine ⟨l, h1, h6, rfl, rfl, fun y hy g => ?_⟩
        have hy : xs[i]? = some y := hy
        rw [h2] at hy
        cases hy
        rw [hx] at g
        cases g
      | true =>
        have e : ((x :: r).takeWhile isL) = x :: r.takeWhile isL := List.takeWhile_cons_of_pos hx
        rw [e, List.take_succ_cons, List.length_cons]
        obtain ⟨l', a1, a2, a3, a4, a5⟩ := name_run m n (i := i + 1) (l := l + 1) (by omega) (by omega) (by omega)
        have e2 : 6 - (l + 1) = n := by omega
        have hd1 : xs.drop (i + 1) = r := dropCons hd
        rw [e2, hd1] at a3 a4 a5
        have es : atA xs ⟨m, 1, l⟩ i = atA xs ⟨m, 1, l + 1⟩ (i + 1) := by
          rw [at_some h2]
          have g : goA ⟨m, 1, l⟩ x = true := by
            unfold goA
            rw [if_pos hx]
            have : decide (l < 6) = true := decide_eq_true (by omega)
            show (false || (true && decide (l < 6))) = true
            rw [this]
            rfl
          have nx : nxA ⟨m, 1, l⟩ x = ⟨m, 1, l + 1⟩ := by
            unfold nxA
            rw [if_pos hx]
            rfl
          rw [if_pos g, nx]
        refine ⟨l', a1, a2, by omega, ?_, ?_⟩
        · rw [es, a4]
          congr 1
          omega
        · intro y hy
          refine a5 y ?_
          rw [← hy]
          congr 1
          omega
theorem name_item {m : List (Option Bool)} {i l0 : Nat} (hm : m.length ≤ 21) (h40 : xs[i]? = some 40 → m.length = 21) : (∀ c j, nameR xs i = .ok c j → ∃ l, Beh xs 1 l j ∧ atA xs ⟨m, 0, l0⟩ i = atA xs ⟨m, 1, l⟩ j) ∧ ∀ p, nameR xs i = .bad p → atA xs ⟨m, 0, l0⟩ i = (p, false) := by
  unfold nameR nmAt
  cases hd : xs.drop i with
  | nil =>
    refine ⟨fun c j h => ?_, fun p h => ?_⟩
    · rw [show (([] : List Nat).takeWhile isL).take 6 = [] from rfl, if_pos rfl] at h
      cases h
    · rw [show (([] : List Nat).takeWhile isL).take 6 = [] from rfl, if_pos rfl] at h
      cases h
      rw [at_none (getAt hd)]
      rfl
  | cons x r =>
    have h2 : xs[i]? = some x := getAt hd
    cases hx : isL x with
    | false =>
      have e : ((x :: r).takeWhile isL).take 6 = [] := by
        rw [List.takeWhile_cons_of_neg (by rw [hx]; exact Bool.false_ne_true)]
        rfl
      rw [e, if_pos rfl]
      refine ⟨fun c j h => (by cases h), fun p h => ?_⟩
      cases h
      rw [at_some h2]
      have g : goA ⟨m, 0, l0⟩ x = false := by
        unfold goA
        rw [if_neg (by rw [hx]; exact Bool.false_ne_true)]
        by_cases a : x = 40
        · subst a
          rw [if_pos rfl]
          have : decide (m.length < 21) = false := decide_eq_false (by rw [h40 h2]; decide)
          show (true && decide (m.length < 21)) = false
          rw [this]
          rfl
        · rw [if_neg a]
          split
          · rfl
          · split
            · rfl
            · split
              · rfl
              · rfl
      rw [g]
      rfl
    | true =>
      have e : ((x :: r).takeWhile isL).take 6 = x :: (r.takeWhile isL).take 5 := by
        rw [List.takeWhile_cons_of_pos hx]
        rfl
      rw [e, if_neg (List.cons_ne_nil _ _)]
      refine ⟨fun c j h => ?_, fun p h => by cases h⟩
      cases h
      obtain ⟨l', a1, a2, a3, a4, a5⟩ := name_run (xs := xs) m 5 (i := i + 1) (l := 1) (by decide) (by decide) rfl
      have hd1 : xs.drop (i + 1) = r := dropCons hd
      have e61 : (6 - 1 : Nat) = 5 := rfl
      rw [hd1, e61] at a3 a4 a5
      have es : atA xs ⟨m, 0, l0⟩ i = atA xs ⟨m, 1, 1⟩ (i + 1) := by
        rw [at_some h2]
        have g : goA ⟨m, 0, l0⟩ x = true := by
          unfold goA
          rw [if_pos hx]
          rfl
        have nx : nxA ⟨m, 0, l0⟩ x = ⟨m, 1, 1⟩ := by
          unfold nxA
          rw [if_pos hx]
          rfl
        rw [if_pos g, nx]
      have ej : i + (x :: (r.takeWhile isL).take 5).length = i + 1 + ((r.takeWhile isL).take 5).length := by
        rw [List.length_cons]
        omega
      rw [ej]
      refine ⟨l', .inr ⟨rfl, a1, a2, a5⟩, ?_⟩
      rw [es, a4]
theorem beh_stop {m : List (Option Bool)} {s l j : Nat} (hb : Beh xs s l j) (h32 : ¬ xs[j]? = some 32) (h41 : ¬ xs[j]? = some 41 ∨ m.length = 1) (hm : m.length = 1 → ∃ x, xs[j]? = some x) : atA xs ⟨m, s, l⟩ j = (j, false) := by
  have hs : s = 1 ∨ s = 2 := by
    rcases hb with h | ⟨h, _⟩
    · exact .inr h
    · exact .inl h
  cases hx : xs[j]? with
  | none =>
    rw [at_none hx]
    have : ¬ m.length = 1 := fun h => by
      obtain ⟨x, g⟩ := hm h
      rw [hx] at g
      cases g
    unfold accA
    have e : (m.length == 1) = false := by simpa using this
    show (j, (s == 1 || s == 2) && (m.length == 1)) = _
    rw [e, Bool.and_false]
  | some x =>
    rw [at_some hx]
    have g : goA ⟨m, s, l⟩ x = false := by
      unfold goA
      cases hL : isL x with
      | true =>
        rw [if_pos rfl]
        rcases hb with h | ⟨h, _, _, h4⟩
        · subst h
          rfl
        · have := h4 x hx hL
          subst this
          subst h
          rfl
      | false =>
        rw [if_neg Bool.false_ne_true]
        by_cases a : x = 40
        · rw [if_pos a]
          rcases hs with h | h <;> (subst h; rfl)
        · rw [if_neg a]
          by_cases b : x = 41
          · rw [if_pos b]
            rcases h41 with h | h
            · exact absurd (by rw [hx, b]) h
            · show ((s == 1 || s == 2) && decide (1 < m.length)) = false
              rw [h]
              exact Bool.and_false _
          · rw [if_neg b, if_neg (fun e => h32 (by rw [hx, e]))]
            split
            · rcases hs with h | h <;> (subst h; rfl)
            · rfl
    rw [g]
    rfl
theorem space_go {m : List (Option Bool)} {s l j : Nat} (hb : Beh xs s l j) (h : xs[j]? = some 32) : atA xs ⟨m, s, l⟩ j = atA xs ⟨m, 3, l⟩ (j + 1) := by
  rw [at_some h]
  rcases hb with e | ⟨e, _⟩ <;> (subst e; rfl)
theorem sign_stop {m : List (Option Bool)} {l j : Nat} (h : ∀ k, xs[j]? = some (sgnN k) → ¬ (m.head? = some none ∨ m.head? = some (some k))) : atA xs ⟨m, 3, l⟩ j = (j, false) := by
  cases hx : xs[j]? with
  | none =>
    rw [at_none hx]
    rfl
  | some x =>
    rw [at_some hx]
    have g : goA ⟨m, 3, l⟩ x = false := by
      unfold goA
      split
      · rfl
      · split
        · rfl
        · split
          · rfl
          · split
            · rfl
            · split
              · rename_i hs
                have key : ∀ k : Bool, x = sgnN k → (m.head? == some none || m.head? == some (some k)) = false := fun k e => by
                  have := h k (by rw [hx, e])
                  cases hm : m.head? with
                  | none => rfl
                  | some o =>
                    rw [hm] at this
                    cases o with
                    | none => exact absurd (.inl rfl) this
                    | some k' =>
                      have hk : k' ≠ k := fun z => this (.inr (by rw [z]))
                      cases k' <;> cases k <;> first | rfl | exact absurd rfl hk
                rcases hs with e | e
                · have := key true e
                  subst e
                  exact this
                · have := key false e
                  subst e
                  exact this
              · rfl
    rw [g]
    rfl
theorem sign_go {m : List (Option Bool)} {l j : Nat} {k : Bool} (h : xs[j]? = some (sgnN k)) (hm : m.head? = some none ∨ m.head? = some (some k)) : atA xs ⟨m, 3, l⟩ j = atA xs ⟨some k :: m.tail, 4, l⟩ (j + 1) := by
  rw [at_some h]
  have g : goA ⟨m, 3, l⟩ (sgnN k) = true := by
    have e : (m.head? == some none || m.head? == some (some k)) = true := by
      rcases hm with h | h
      · rw [h]
        rfl
      · rw [h]
        cases k <;> rfl
    cases k <;> exact e
  rw [if_pos g]
  cases k <;> rfl
theorem four_stop {m : List (Option Bool)} {l j : Nat} (h : ¬ xs[j]? = some 32) : atA xs ⟨m, 4, l⟩ j = (j, false) := by
  cases hx : xs[j]? with
  | none =>
    rw [at_none hx]
    rfl
  | some x =>
    rw [at_some hx]
    have g : goA ⟨m, 4, l⟩ x = false := by
      unfold goA
      split
      · rfl
      · split
        · rfl
        · split
          · rfl
          · rw [if_neg (fun e => h (by rw [hx, e]))]
            split
            · rfl
            · rfl
    rw [g]
    rfl
theorem four_go {m : List (Option Bool)} {l j : Nat} (h : xs[j]? = some 32) : atA xs ⟨m, 4, l⟩ j = atA xs ⟨m, 0, l⟩ (j + 1) := by
  rw [at_some h]
  rfl
def ItemA (xs : List Nat) (d : Nat) : Prop := ∀ (m : List (Option Bool)) (i l0 : Nat), m.length + d = 21 → 1 ≤ m.length → (∀ c j, itemR xs d i = .ok c j → ∃ s l, Beh xs s l j ∧ atA xs ⟨m, 0, l0⟩ i = atA xs ⟨m, s, l⟩ j) ∧ ∀ p, itemR xs d i = .bad p → atA xs ⟨m, 0, l0⟩ i = (p, false)
theorem more_run {d : Nat} (I : ItemA xs d) (adv : ∀ i c j, itemR xs d i = .ok c j → i < j) {k : Bool} {m : List (Option Bool)} (hm : (m.length + 1) + d = 21) : ∀ (f : Nat) (acc : List Ci) (j s l : Nat) (top : Option Bool), (top = some k ∨ (top = none ∧ xs[j]? = some 32 ∧ xs[j + 1]? = some (sgnN k))) → xs.length < j + f → Beh xs s l j →
    (∀ cs e, moreR (itemR xs d) xs k f acc j = .ok cs e → ∃ s' l' top', Beh xs s' l' e ∧ ¬ xs[e]? = some 32 ∧ atA xs ⟨top :: m, s, l⟩ j = atA xs ⟨top' :: m, s', l'⟩ e) ∧ ∀ p, moreR (itemR xs d) xs k f acc j = .bad p → atA xs ⟨top :: m, s, l⟩ j = (p, false)
  | 0, acc, j, s, l, top, ht, hf, hb => by
    refine ⟨fun cs e h => ?_, fun p h => by cases h⟩
    cases h
    refine ⟨s, l, top, hb, fun g => ?_, rfl⟩
    have := (List.getElem?_eq_some_iff.mp g).1
    omega
  | f + 1, acc, j, s, l, top, ht, hf, hb => by
    unfold moreR
    by_cases h32 : xs[j]? = some 32
    · rw [if_pos h32]
      have e1 := space_go (m := top :: m) hb h32
      by_cases hs : xs[j + 1]? = some (sgnN k)
      · rw [if_pos hs]
        have e2 := sign_go (m := top :: m) (l := l) hs (by
          rcases ht with rfl | ⟨rfl, _⟩
          · exact .inr rfl
          · exact .inl rfl)
        have e2 : atA xs ⟨top :: m, 3, l⟩ (j + 1) = atA xs ⟨some k :: m, 4, l⟩ (j + 1 + 1) := e2
        by_cases h2 : xs[j + 2]? = some 32
        · rw [if_pos h2]
          have e3 := four_go (m := some k :: m) (l := l) (j := j + 1 + 1) h2
          have e123 := (e1.trans e2).trans e3
          obtain ⟨i1, i2⟩ := I (some k :: m) (j + 3) l hm (by rw [List.length_cons]; omega)
          cases hi : itemR xs d (j + 3) with
          | bad p =>
            have := i2 p hi
            refine ⟨fun cs e h => (by cases h), fun p' h => ?_⟩
            cases h
            exact e123.trans this
          | ok c e =>
            obtain ⟨s', l', hb', hr⟩ := i1 c e hi
            have hlt := adv _ _ _ hi
            obtain ⟨q1, q2⟩ := more_run I adv hm f (acc ++ [c]) e s' l' (some k) (.inl rfl) (by omega) hb'
            refine ⟨fun cs e' h => ?_, fun p h => ?_⟩
            · obtain ⟨s2, l2, t2, a1, a2, a3⟩ := q1 cs e' h
              exact ⟨s2, l2, t2, a1, a2, (e123.trans hr).trans a3⟩
            · exact (e123.trans hr).trans (q2 p h)
        · rw [if_neg h2]
          have e3 := four_stop (m := some k :: m) (l := l) (j := j + 1 + 1) h2
          refine ⟨fun cs e h => (by cases h), fun p h => ?_⟩
          cases h
          exact (e1.trans e2).trans e3
      · rw [if_neg hs]
        have e2 := sign_stop (m := top :: m) (l := l) (j := j + 1) fun k' g hh => by
          rcases ht with rfl | ⟨_, _, h⟩
          · rcases hh with h | h
            · cases h
            · cases h
              exact hs g
          · exact hs h
        refine ⟨fun cs e h => (by cases h), fun p h => ?_⟩
        cases h
        exact e1.trans e2
    · rw [if_neg h32]
      refine ⟨fun cs e h => ?_, fun p h => by cases h⟩
      cases h
      exact ⟨s, l, top, hb, h32, rfl⟩
theorem row_run {d : Nat} (I : ItemA xs d) (adv : ∀ i c j, itemR xs d i = .ok c j → i < j) {m : List (Option Bool)} (hm : (m.length + 1) + d = 21) (i l0 : Nat) :
    (∀ c j, rowR (itemR xs d) xs i = .ok c j → ∃ s l top, Beh xs s l j ∧ ¬ xs[j]? = some 32 ∧ atA xs ⟨none :: m, 0, l0⟩ i = atA xs ⟨top :: m, s, l⟩ j) ∧ ∀ p, rowR (itemR xs d) xs i = .bad p → atA xs ⟨none :: m, 0, l0⟩ i = (p, false) := by
  obtain ⟨i1, i2⟩ := I (none :: m) i l0 hm (by rw [List.length_cons]; omega)
  unfold rowR
  cases hi : itemR xs d i with
  | bad p =>
    refine ⟨fun c j h => (by cases h), fun p' h => ?_⟩
    cases h
    exact i2 p hi
  | ok c j =>
    obtain ⟨s, l, hb, hr⟩ := i1 c j hi
    show (∀ c' j', (if xs[j]? = some 32 then (match signR xs (j + 1) with | none => Got.bad (j + 1) | some k => finR k (moreR (itemR xs d) xs k (xs.length + 1) [c] j)) else Got.ok c j) = Got.ok c' j' → _) ∧ ∀ p, (if xs[j]? = some 32 then (match signR xs (j + 1) with | none => Got.bad (j + 1) | some k => finR k (moreR (itemR xs d) xs k (xs.length + 1) [c] j)) else Got.ok c j) = Got.bad p → _
    by_cases h32 : xs[j]? = some 32
    · rw [if_pos h32]
      cases hs : signR xs (j + 1) with
      | none =>
        refine ⟨fun c' j' h => (by cases h), fun p h => ?_⟩
        cases h
        have e1 := space_go (m := none :: m) hb h32
        refine (hr.trans e1).trans (sign_stop fun k g => ?_)
        exfalso
        unfold signR at hs
        cases k with
        | true =>
          have g : xs[j + 1]? = some 38 := g
          rw [if_pos g] at hs
          cases hs
        | false =>
          have g : xs[j + 1]? = some 124 := g
          rw [if_neg (by rw [g]; decide), if_pos g] at hs
          cases hs
      | some k =>
        have hsk : xs[j + 1]? = some (sgnN k) := by
          unfold signR at hs
          by_cases a : xs[j + 1]? = some 38
          · rw [if_pos a] at hs
            cases hs
            exact a
          · rw [if_neg a] at hs
            by_cases b : xs[j + 1]? = some 124
            · rw [if_pos b] at hs
              cases hs
              exact b
            · rw [if_neg b] at hs
              cases hs
        obtain ⟨q1, q2⟩ := more_run I adv hm (xs.length + 1) [c] j s l none (.inr ⟨rfl, h32, hsk⟩) (by omega) hb
        show (∀ c' j', finR k (moreR (itemR xs d) xs k (xs.length + 1) [c] j) = Got.ok c' j' → _) ∧ ∀ p, finR k (moreR (itemR xs d) xs k (xs.length + 1) [c] j) = Got.bad p → _
        cases hmr : moreR (itemR xs d) xs k (xs.length + 1) [c] j with
        | bad p =>
          refine ⟨fun c' j' h => (by cases h), fun p' h => ?_⟩
          cases h
          exact hr.trans (q2 p hmr)
        | ok cs e =>
          refine ⟨fun c' j' h => ?_, fun p h => by cases h⟩
          cases h
          obtain ⟨s', l', t', a1, a2, a3⟩ := q1 cs e hmr
          exact ⟨s', l', t', a1, a2, hr.trans a3⟩
    · rw [if_neg h32]
      refine ⟨fun c' j' h => ?_, fun p h => by cases h⟩
      cases h
      exact ⟨s, l, none, hb, h32, hr⟩
theorem itemA (adv : ∀ d i c j, itemR xs d i = .ok c j → i < j) : ∀ d : Nat, ItemA xs d
  | 0, m, i, l0, hm, h1 => by
    obtain ⟨a, b⟩ := name_item (xs := xs) (m := m) (i := i) (l0 := l0) (by omega) (fun _ => by omega)
    exact ⟨fun c j h => by
      obtain ⟨l, x, y⟩ := a c j h
      exact ⟨1, l, x, y⟩, b⟩
  | d + 1, m, i, l0, hm, h1 => by
    unfold itemR
    by_cases h40 : xs[i]? = some 40
    · rw [if_pos h40]
      have e1 : atA xs ⟨m, 0, l0⟩ i = atA xs ⟨none :: m, 0, l0⟩ (i + 1) := by
        rw [at_some h40]
        have g : goA ⟨m, 0, l0⟩ 40 = true := by
          show (true && decide (m.length < 21)) = true
          rw [decide_eq_true (by omega)]
          rfl
        rw [if_pos g]
        rfl
      obtain ⟨r1, r2⟩ := row_run (itemA adv d) (adv d) (m := m) (by omega) (i + 1) l0
      cases hr : rowR (itemR xs d) xs (i + 1) with
      | bad p =>
        refine ⟨fun c j h => (by cases h), fun p' h => ?_⟩
        cases h
        exact e1.trans (r2 p hr)
      | ok c j =>
        obtain ⟨s, l, top, hb, h32, e2⟩ := r1 c j hr
        show (∀ c' j', (if xs[j]? = some 41 then Got.ok c (j + 1) else Got.bad j) = Got.ok c' j' → _) ∧ ∀ p, (if xs[j]? = some 41 then Got.ok c (j + 1) else Got.bad j) = Got.bad p → _
        by_cases h41 : xs[j]? = some 41
        · rw [if_pos h41]
          refine ⟨fun c' j' h => ?_, fun p h => by cases h⟩
          cases h
          refine ⟨2, l, .inl rfl, (e1.trans e2).trans ?_⟩
          rw [at_some h41]
          have g : goA ⟨top :: m, s, l⟩ 41 = true := by
            show ((s == 1 || s == 2) && decide (1 < m.length + 1)) = true
            rw [decide_eq_true (by omega)]
            rcases hb with h | ⟨h, _⟩ <;> (subst h; rfl)
          rw [if_pos g]
          rfl
        · rw [if_neg h41]
          refine ⟨fun c' j' h => (by cases h), fun p h => ?_⟩
          cases h
          exact (e1.trans e2).trans (beh_stop hb h32 (.inl h41) (fun h => by rw [List.length_cons] at h; omega))
    · rw [if_neg h40]
      obtain ⟨a, b⟩ := name_item (xs := xs) (m := m) (i := i) (l0 := l0) (by omega) (fun h => absurd h h40)
      exact ⟨fun c j h => by
        obtain ⟨l, x, y⟩ := a c j h
        exact ⟨1, l, x, y⟩, b⟩
theorem run_len {a : Au} : ∀ {r : List Nat} {k p : Nat}, runA a r k = (p, true) → p = k + r.length
  | [], k, p, h => by
    have h : (k, accA a) = (p, true) := h
    have h1 : k = p := congrArg Prod.fst h
    rw [← h1]
    rfl
  | x :: r, k, p, h => by
    unfold runA at h
    by_cases g : goA a x = true
    · rw [if_pos g] at h
      have := run_len h
      rw [List.length_cons]
      omega
    · rw [if_neg g] at h
      cases h
theorem scan_read (adv : ∀ d i c j, itemR xs d i = .ok c j → i < j) : (∀ c j, readR xs = .ok c j → scanA xs = (xs.length, true)) ∧ ∀ p, readR xs = .bad p → scanA xs = (p, false) := by
  obtain ⟨r1, r2⟩ := row_run (itemA adv 20) (adv 20) (m := []) rfl 0 0
  unfold readR
  cases hr : rowR (itemR xs 20) xs 0 with
  | bad p =>
    refine ⟨fun c j h => (by cases h), fun p' h => ?_⟩
    cases h
    exact r2 p hr
  | ok c j =>
    obtain ⟨s, l, top, hb, h32, e⟩ := r1 c j hr
    show (∀ c' j', (if j < xs.length then Got.bad j else Got.ok c j) = Got.ok c' j' → _) ∧ ∀ p, (if j < xs.length then Got.bad j else Got.ok c j) = Got.bad p → _
    by_cases hj : j < xs.length
    · rw [if_pos hj]
      refine ⟨fun c' j' h => (by cases h), fun p h => ?_⟩
      cases h
      exact e.trans (beh_stop hb h32 (.inr rfl) (fun _ => ⟨xs[j], List.getElem?_eq_getElem hj⟩))
    · rw [if_neg hj]
      refine ⟨fun c' j' h => ?_, fun p h => by cases h⟩
      have hx : xs[j]? = none := List.getElem?_eq_none_iff.mpr (by omega)
      have e2 : scanA xs = (j, true) := by
        refine e.trans ?_
        rw [at_none hx]
        rcases hb with h | ⟨h, _⟩ <;> (subst h; rfl)
      have := run_len (show runA ⟨[none], 0, 0⟩ (xs.drop 0) 0 = (j, true) from e2)
      rw [List.drop_zero] at this
      rw [e2, this, Nat.zero_add]
/-! ### what is read is a text -/
def Snd (xs : List Nat) (d : Nat) : Prop := ∀ i c j, itemR xs d i = .ok c j → ∃ s, xs.drop i = s ++ xs.drop j ∧ j = i + s.length ∧ IT d c s
theorem name_snd {d i j : Nat} {c : Ci} (h : nameR xs i = .ok c j) : ∃ s, xs.drop i = s ++ xs.drop j ∧ j = i + s.length ∧ IT d c s := by
  unfold nameR at h
  by_cases e : nmAt (xs.drop i) = []
  · rw [if_pos e] at h
    cases h
  · rw [if_neg e] at h
    cases h
    have hp : nmAt (xs.drop i) = (xs.drop i).take (nmAt (xs.drop i)).length := by
      have h1 : nmAt (xs.drop i) <+: xs.drop i := (List.take_prefix _ _).trans (List.takeWhile_prefix _)
      exact List.prefix_iff_eq_take.mp h1
    refine ⟨nmAt (xs.drop i), ?_, rfl, ?_⟩
    · conv => lhs; rw [← List.take_append_drop (nmAt (xs.drop i)).length (xs.drop i)]
      rw [← hp, List.drop_drop]
    · have hn : nm ⟨(nmAt (xs.drop i)).toArray⟩ := by
        refine ⟨?_, ?_, fun x hx => ?_⟩
        · exact List.length_pos_iff.mpr e
        · show (nmAt (xs.drop i)).length ≤ 6
          unfold nmAt
          rw [List.length_take]
          omega
        · have hx : x ∈ nmAt (xs.drop i) := hx
          have : ∀ {l : List Nat}, x ∈ l.takeWhile isL → isL x = true := by
            intro l
            induction l with
            | nil => intro h; cases h
            | cons y r ih =>
              intro h
              cases hy : isL y with
              | true =>
                rw [List.takeWhile_cons_of_pos hy] at h
                rcases List.mem_cons.mp h with rfl | h
                · exact hy
                · exact ih h
              | false =>
                rw [List.takeWhile_cons_of_neg (by rw [hy]; exact Bool.false_ne_true)] at h
                cases h
          exact isL_iff.mp (this (List.mem_of_mem_take hx))
      exact IT.name hn
theorem drop_one {i x : Nat} (h : xs[i]? = some x) : xs.drop i = x :: xs.drop (i + 1) := by
  obtain ⟨hi, hx⟩ := List.getElem?_eq_some_iff.mp h
  rw [List.drop_eq_getElem_cons hi, hx]
theorem more_snd {d : Nat} (S : Snd xs d) {k : Bool} : ∀ (f : Nat) (acc : List Ci) (j : Nat) (cs : List Ci) (e : Nat), moreR (itemR xs d) xs k f acc j = .ok cs e → ∃ ps ss, cs = acc ++ ps ∧ ITl d ps ss ∧ xs.drop j = tailJ k ss ++ xs.drop e ∧ e = j + (tailJ k ss).length
  | 0, acc, j, cs, e, h => by
    cases h
    exact ⟨[], [], (List.append_nil _).symm, .nil, rfl, rfl⟩
  | f + 1, acc, j, cs, e, h => by
    unfold moreR at h
    by_cases h32 : xs[j]? = some 32
    · rw [if_pos h32] at h
      by_cases hs : xs[j + 1]? = some (sgnN k)
      · rw [if_pos hs] at h
        by_cases h2 : xs[j + 2]? = some 32
        · rw [if_pos h2] at h
          cases hi : itemR xs d (j + 3) with
          | bad p =>
            rw [hi] at h
            cases h
          | ok c e1 =>
            rw [hi] at h
            obtain ⟨s, a1, a2, a3⟩ := S _ _ _ hi
            obtain ⟨ps, ss, b1, b2, b3, b4⟩ := more_snd S f (acc ++ [c]) e1 cs e h
            refine ⟨c :: ps, s :: ss, by rw [b1, List.append_assoc]; rfl, .cons a3 b2, ?_, ?_⟩
            · rw [drop_one h32, drop_one hs, drop_one h2]
              show 32 :: sgnN k :: 32 :: xs.drop (j + 3) = _
              rw [a1, b3, ← List.append_assoc]
              rfl
            · show e = j + (32 :: sgnN k :: 32 :: (s ++ tailJ k ss)).length
              rw [List.length_cons, List.length_cons, List.length_cons, List.length_append]
              omega
        · rw [if_neg h2] at h
          cases h
      · rw [if_neg hs] at h
        cases h
    · rw [if_neg h32] at h
      cases h
      exact ⟨[], [], (List.append_nil _).symm, .nil, rfl, rfl⟩
theorem row_snd {d : Nat} (S : Snd xs d) {i : Nat} {c : Ci} {j : Nat} (h : rowR (itemR xs d) xs i = .ok c j) : ∃ s, xs.drop i = s ++ xs.drop j ∧ j = i + s.length ∧ RT d c s := by
  unfold rowR at h
  cases hi : itemR xs d i with
  | bad p =>
    rw [hi] at h
    cases h
  | ok c1 j1 =>
    rw [hi] at h
    obtain ⟨s, a1, a2, a3⟩ := S _ _ _ hi
    have h : (if xs[j1]? = some 32 then (match signR xs (j1 + 1) with | none => Got.bad (j1 + 1) | some k => finR k (moreR (itemR xs d) xs k (xs.length + 1) [c1] j1)) else Got.ok c1 j1) = Got.ok c j := h
    by_cases h32 : xs[j1]? = some 32
    · rw [if_pos h32] at h
      cases hs : signR xs (j1 + 1) with
      | none =>
        rw [hs] at h
        cases h
      | some k =>
        rw [hs] at h
        have h : finR k (moreR (itemR xs d) xs k (xs.length + 1) [c1] j1) = Got.ok c j := h
        cases hm : moreR (itemR xs d) xs k (xs.length + 1) [c1] j1 with
        | bad p =>
          rw [hm] at h
          cases h
        | ok cs e =>
          rw [hm] at h
          cases h
          obtain ⟨ps, ss, b1, b2, b3, b4⟩ := more_snd S _ _ _ _ _ hm
          subst b1
          refine ⟨joinL (tl (sepS k)) (s :: ss), ?_, ?_, ?_⟩
          · rw [joinL_tail, a1, b3, List.append_assoc]
          · rw [joinL_tail, List.length_append]
            omega
          · refine .row a3 b2 fun e => ?_
            subst e
            cases b2
            -- a space and a sign, so one more
            unfold moreR at hm
            rw [if_pos h32] at hm
            have hne : j1 ≠ j := by
              intro e
              have b4 : j = j1 + 0 := b4
              have hl : ∀ (f : Nat) (acc : List Ci) (a : Nat) (cs : List Ci) (b : Nat), moreR (itemR xs d) xs k f acc a = .ok cs b → acc.length ≤ cs.length := by
                intro f
                induction f with
                | zero =>
                  intro acc a cs b h
                  cases h
                  exact Nat.le_refl _
                | succ f ih =>
                  intro acc a cs b h
                  unfold moreR at h
                  split at h
                  · split at h
                    · split at h
                      · cases hi : itemR xs d (a + 3) with
                        | bad p =>
                          rw [hi] at h
                          cases h
                        | ok c2 j2 =>
                          rw [hi] at h
                          have := ih _ _ _ _ h
                          rw [List.length_append] at this
                          omega
                      · cases h
                    · cases h
                  · cases h
                    exact Nat.le_refl _
              split at hm
              · split at hm
                · cases hi3 : itemR xs d (j1 + 3) with
                  | bad p =>
                    rw [hi3] at hm
                    cases hm
                  | ok c2 j2 =>
                    rw [hi3] at hm
                    have := hl _ _ _ _ _ hm
                    rw [List.length_append, List.length_append] at this
                    simp at this
                · cases hm
              · cases hm
            exact hne (by have b4 : j = j1 + 0 := b4; omega)
    · rw [if_neg h32] at h
      cases h
      exact ⟨s, a1, a2, .one a3⟩
theorem item_snd : ∀ d : Nat, Snd xs d
  | 0, i, c, j, h => name_snd h
  | d + 1, i, c, j, h => by
    unfold itemR at h
    by_cases h40 : xs[i]? = some 40
    · rw [if_pos h40] at h
      cases hr : rowR (itemR xs d) xs (i + 1) with
      | bad p =>
        rw [hr] at h
        cases h
      | ok c1 j1 =>
        rw [hr] at h
        have h : (if xs[j1]? = some 41 then Got.ok c1 (j1 + 1) else Got.bad j1) = Got.ok c j := h
        by_cases h41 : xs[j1]? = some 41
        · rw [if_pos h41] at h
          cases h
          obtain ⟨s, a1, a2, a3⟩ := row_snd (item_snd d) hr
          refine ⟨40 :: (s ++ [41]), ?_, ?_, .par a3⟩
          · rw [drop_one h40, a1, drop_one h41]
            simp
          · rw [List.length_cons, List.length_append, List.length_singleton]
            omega
        · rw [if_neg h41] at h
          cases h
    · rw [if_neg h40] at h
      exact name_snd h
theorem read_snd {c : Ci} {j : Nat} (h : readR xs = .ok c j) : RT 20 c xs := by
  unfold readR at h
  cases hr : rowR (itemR xs 20) xs 0 with
  | bad p =>
    rw [hr] at h
    cases h
  | ok c1 j1 =>
    rw [hr] at h
    have h : (if j1 < xs.length then Got.bad j1 else Got.ok c1 j1) = Got.ok c j := h
    by_cases hj : j1 < xs.length
    · rw [if_pos hj] at h
      cases h
    · rw [if_neg hj] at h
      cases h
      obtain ⟨s, a1, a2, a3⟩ := row_snd (item_snd 20) hr
      rw [List.drop_of_length_le (Nat.not_lt.mp hj), List.append_nil] at a1
      have a1 : xs = s := a1
      rw [a1]
      exact a3
end
end Eyes

set_option Elab.async false
set_option linter.all false
set_option maxRecDepth 100000
set_option maxHeartbeats 4000000
/-! try with one clause that names two classes and no name. -/
namespace Eyes
open PySem PySem.Spec PyProof.Rows L2
def wTup (K : PySem.W.Frag) (D : L2.Ends) (c1 c2 : Value) (ts : Addr → Value → Option Addr → TS) : WX :=
  fun cls d τ G => PySem.W.exmAny K cls [c1, c2] = some true ∧ ∀ e, G e = none → ts e cls d D τ G
section
variable {X : Cx} {body : List Stmt} {x1 x2 : Str} {c1 c2 : Value} {p1 p2 p3 p4 pos : Pos} {kk : Nat} {st0 : Stmt} {sts : List Stmt} {ts : Addr → Value → Option Addr → TS} {tb : WX → TS}
theorem clause_tup {pins : List (Addr × Obj)} {τ : L2.St} {G : Hp} {D : L2.Ends} {e : Addr} {B : Heap} {sI s1 : Shared} {cls : Value} {d : Option Addr} (ok : X.Ok) (hs : X.stack = X.env :: X.outer) (hf : X.env.frame = some X.env.locals)
    (J : Inv X pins τ G sI) (nb : ∀ b o, sI.heap.get? b = some o → b ∉ frs X.stack → B.get? b = some o) (up : sI.heap.UpToSlots s1.heap) (fl : HandSPX.FlyingZ B (X.env :: X.outer) e (Zc cls d) s1.heap) (na : G e = none) (os : s1.os = sI.os) (ag : AllBare s1.gens)
    (nL : e ≠ X.env.locals) (nF : e ∉ X.fs) (g1 : Gl X x1) (g2 : Gl X x2) (m1 : X.mg x1 = some c1) (m2 : X.mg x2 = some c2) (d1 : (x1 == Str.ofString "__debug__") = false) (d2 : (x2 == Str.ofString "__debug__") = false)
    (su : ∀ (e : Addr) (oe : Obj) (cls : Value) (d : Option Addr) (pn : List (Addr × Obj)), Zc cls d oe → (∃ fs, oe.data = .fields fs) → PSs (X.suite e ((e, oe) :: pn)) (st0 :: sts) (ts e cls d)) :
    wTup X.K D c1 c2 ts cls d τ G → wpAny (model X.prog X.w) X.A (handleBy (.ref e) X.env [.ExceptHandler (some (.Tuple [.Name x1 p1, .Name x2 p2] kk p3)) none (st0 :: sts) p4]) (SP X pins D) X.xe s1 := by
  rintro ⟨hy, yes⟩
  obtain ⟨oe, fs, he, hz, hd⟩ := fl.there
  have here : Inv X pins τ G s1 := J.landed nb fl.1 up os ag
  have inS := here.suite he hd na nL nF
  refine wpAny_handleBy_cons (codeAny_handlers_test (wpAny_Tuple (spliced_more (ld_glob (X := X.suite e ((e, oe) :: (X.pn ++ pins))) inS g1 m1 (spliced_more (ld_glob (X := X.suite e ((e, oe) :: (X.pn ++ pins))) inS g2 m2 (spliced_none ⟨by show 2 ≤ sizeLine; decide, ?_⟩) d2) rfl) d1) rfl))) (fun z => nomatch z)
  have keeps : ∀ b o, s1.heap.get? b = some o → (s1.heap.push { cls := .type "tuple", data := .seq #[c1, c2] }).get? b = some o := fun b o q => Heap.get?_push_of_some _ q
  have upP : s1.heap.UpToSlots (s1.heap.push { cls := .type "tuple", data := .seq #[c1, c2] }) := Heap.UpToSlots.of_keeps keeps
  have fl2 : HandSPX.FlyingZ B (X.env :: X.outer) e (Zc cls d) (s1.heap.push { cls := .type "tuple", data := .seq #[c1, c2] }) := by
    obtain ⟨a1, a2, a3, oe', vs, T, oT, t1, b1, b2, b3, b4, b5, b6, b7, b8, b9⟩ := fl
    exact ⟨fun b o q => keeps _ _ (a1 _ _ q), a2, a3.of_keeps (fun b o q _ => ⟨o, keeps _ _ q, rfl⟩), oe', vs, T, oT, t1, keeps _ _ b1, b2, b3, b4, b5, b6, keeps _ _ b7, b8, b9⟩
  have here2 : Inv X pins τ G { s1 with heap := s1.heap.push { cls := .type "tuple", data := .seq #[c1, c2] } } := J.landed nb fl2.1 (up.trans upP) os ag
  have cl : PySem.W.Looks (model X.prog X.w) (s1.heap.push { cls := .type "tuple", data := .seq #[c1, c2] }) (typeOf (.ref e)) cls := fun A' Q' E' s' kp q => wpAny_typeOf_ref (kp _ _ (keeps _ _ he)) (by rw [hz.1]; exact q)
  have mt := PySem.W.exm_tup2 (M := model X.prog X.w) here2.kIn cl (Heap.get?_push_size _ rfl) hy
  refine mt.here ?_
  refine codeAny_handlers_suite (HandSPX.lands_againZ fl2 fun h4 fl4 up4 => ?_)
  obtain ⟨oe4, fs4, he4, hz4, hd4⟩ := fl4.there
  have at4 : Inv X pins τ G { s1 with heap := h4 } := J.landed nb fl4.1 ((up.trans upP).trans up4) os ag
  refine wpAny_mono ((su e oe4 cls d (X.pn ++ pins) hz4 ⟨_, hd4⟩).run [] _ τ G _ (at4.suite he4 hd4 na nL nF) (yes e na)) (fun f s6 q6 => ?_) (fun _ _ z => z.elim)
  cases f with
  | next =>
    obtain ⟨τ6, G6, I6, w6⟩ := q6
    exact ⟨_, _, I6.unsuite ok, w6⟩
  | brk =>
    obtain ⟨τ6, G6, I6, w6⟩ := q6
    exact ⟨_, _, I6.unsuite ok, w6⟩
  | cont =>
    obtain ⟨τ6, G6, I6, w6⟩ := q6
    exact ⟨_, _, I6.unsuite ok, w6⟩
  | ret u =>
    obtain ⟨v6, τ6, G6, I6, r6, w6⟩ := q6
    exact ⟨_, _, _, I6.unsuite ok, r6, w6⟩
theorem ps_tryTup (hs : X.stack = X.env :: X.outer) (hf : X.env.frame = some X.env.locals)
    (hb : ∀ (W : WX) (pn : List (Addr × Obj)) (xe : Value → Shared → Prop), Takes (X.tr pn xe) W → PassesOwn (model X.prog X.w) X.A X.env xe → PSs (X.tr pn xe) body (tb W)) (g1 : Gl X x1) (g2 : Gl X x2) (m1 : X.mg x1 = some c1) (m2 : X.mg x2 = some c2) (d1 : (x1 == Str.ofString "__debug__") = false) (d2 : (x2 == Str.ofString "__debug__") = false)
    (su : ∀ (e : Addr) (oe : Obj) (cls : Value) (d : Option Addr) (pn : List (Addr × Obj)), Zc cls d oe → (∃ fs, oe.data = .fields fs) → PSs (X.suite e ((e, oe) :: pn)) (st0 :: sts) (ts e cls d)) :
    PS X (.Try body [.ExceptHandler (some (.Tuple [.Name x1 p1, .Name x2 p2] kk p3)) none (st0 :: sts) p4] [] [] pos) (fun D τ G => tb (wTup X.K D c1 c2 ts) D τ G) := by
  refine ⟨fun pins s τ G D I h => ?_⟩
  have ok := I.ok
  have stk : X.A.frames = some (X.env :: X.outer) := ok.frames.trans (by rw [hs])
  have out : Takes (X.tr (X.pn ++ pins) (fun u s2 => wpAny (model X.prog X.w) X.A (noteFrame u X.env) (fun _ s3 => wpAny (model X.prog X.w) X.A (setFlight u none) (fun _ s4 => wpAny (model X.prog X.w) X.A (handleBy u X.env [.ExceptHandler (some (.Tuple [.Name x1 p1, .Name x2 p2] kk p3)) none (st0 :: sts) p4]) (SP X pins D) X.xe s4) X.xe s3) X.xe s2)) (wTup X.K D c1 c2 ts) := by
    rintro u s' ⟨e, B, sI, pins', τ', G', cls, d, rfl, J', nb, up, sky, na, os, ag, w⟩
    have J : Inv X pins τ' G' sI := J'.ofTry ok
    refine Sky.land (B := B) (L := X.env.locals) (Z := Zc cls d) Zc.steady stk hf (by rw [← hs]; exact sky) fun h3 fl up3 => ?_
    obtain ⟨oe, fs, he, hz, hd⟩ := fl.there
    have away : e ∉ frs (X.env :: X.outer) := fun hm => by
      obtain ⟨_, o', e', nf⟩ := fl.2.2.1.mem hm
      cases he.symm.trans e'
      exact nf _ hd
    refine clause_tup (s1 := { s' with heap := h3 }) ok hs hf J nb (up.trans up3) fl na os ag (fun z => away (List.mem_filterMap.mpr ⟨X.env, List.mem_cons_self, by rw [hf, z]⟩)) (fun hm => ?_) g1 g2 m1 m2 d1 d2 su w
    obtain ⟨v, hv, q⟩ := List.mem_filterMap.mp hm
    exact away (List.mem_filterMap.mpr ⟨v, List.mem_cons_of_mem _ hv, q⟩)
  refine wpAny_Try_except (wpAny_mono ((hb _ _ _ out PassesOwn.looking).run [] s τ G D (I.toTry _) h) (fun f s1 q => ?_) fun _ _ z => z)
  cases f with
  | next =>
    obtain ⟨τ1, G1, I1, w1⟩ := q
    exact wpAny_execs_nil ⟨τ1, G1, I1.ofTry ok, w1⟩
  | brk =>
    obtain ⟨τ1, G1, I1, w1⟩ := q
    exact ⟨τ1, G1, I1.ofTry ok, w1⟩
  | cont =>
    obtain ⟨τ1, G1, I1, w1⟩ := q
    exact ⟨τ1, G1, I1.ofTry ok, w1⟩
  | ret u =>
    obtain ⟨v1, τ1, G1, I1, r1, w1⟩ := q
    exact ⟨v1, τ1, G1, I1.ofTry ok, r1, w1⟩
end
end Eyes

set_option Elab.async false
set_option linter.all false
set_option maxRecDepth 100000
set_option maxHeartbeats 4000000
namespace Eyes
open PySem PySem.Spec PyProof.Rows L2 Evl TL
/-! ### any text -/
mutual
theorem it_few : ∀ {d : Nat} {c : Ci} {s : List Nat}, IT d c s → s.length ≤ 5000 → c.few ∧ c.size ≤ s.length
  | _, _, _, .name h, _ => ⟨True.intro, by rw [← len_tl]; exact h.1⟩
  | _, _, _, .par h, hs => by
    rw [List.length_cons, List.length_append] at hs ⊢
    obtain ⟨a, b⟩ := rt_few h (by omega)
    exact ⟨a, by omega⟩
theorem rt_few : ∀ {d : Nat} {c : Ci} {s : List Nat}, RT d c s → s.length ≤ 5000 → c.few ∧ c.size ≤ s.length
  | _, _, _, .one h, hs => it_few h hs
  | _, _, _, .row (k := k) (c := c) (ps := ps) (s := s) (ss := ss) h hl hne, hs => by
    rw [joinL_tail, List.length_append] at hs ⊢
    obtain ⟨a, b⟩ := it_few h (by omega)
    obtain ⟨a1, a2, a3⟩ := itl_few k hl (by omega)
    refine ⟨⟨?_, a, a1⟩, ?_⟩
    · rw [List.length_cons]
      omega
    · show c.size + sizes ps ≤ _
      omega
theorem itl_few (k : Bool) : ∀ {d : Nat} {ps : List Ci} {ss : List (List Nat)}, ITl d ps ss → (tailJ k ss).length ≤ 5000 → fews ps ∧ 4 * ps.length ≤ (tailJ k ss).length ∧ sizes ps ≤ (tailJ k ss).length
  | _, _, _, .nil, _ => ⟨True.intro, Nat.le_refl _, Nat.le_refl _⟩
  | _, _, _, .cons (c := c) (ps := ps) (s := s) (ss := ss) h hl, hs => by
    have e : (tailJ k (s :: ss)).length = 3 + (s.length + (tailJ k ss).length) := by
      show (32 :: sgnN k :: 32 :: (s ++ tailJ k ss)).length = _
      rw [List.length_cons, List.length_cons, List.length_cons, List.length_append]
      omega
    rw [e] at hs ⊢
    obtain ⟨a, b⟩ := it_few h (by omega)
    obtain ⟨a1, a2, a3⟩ := itl_few k hl (by omega)
    have h1 := (IT.facts h).2.2.2
    refine ⟨⟨a, a1⟩, ?_, ?_⟩
    · rw [List.length_cons]
      omega
    · show c.size + sizes ps ≤ _
      omega
end
structure Tx (z : Str) : Prop where
  len : z.length ≤ 5000
  low : ∀ c ∈ tl z, c < 128
theorem Tx.okT {z : Str} (h : Tx z) : okT z := ⟨Nat.le_trans h.len (by decide), h.low⟩
theorem Tx.facts {z : Str} (h : Tx z) {c : Ci} {j : Nat} (hr : readR (tl z) = .ok c j) : RT 20 c (tl z) ∧ c.ok ∧ c.few ∧ c.depth < 25 ∧ c.size ≤ 6000 := by
  have h1 := read_snd hr
  obtain ⟨a, b, _, _⟩ := RT.facts h1
  have hl := h.len
  rw [len_tl] at hl
  obtain ⟨c1, c2⟩ := rt_few h1 hl
  exact ⟨h1, a, c1, by omega, by omega⟩
inductive R5 where
  | bad (p : Int)
  | got (r : Rs Ci)
def dueZ (z : Str) : R5 := match readR (tl z) with
  | .bad p => .bad (p : Nat)
  | .ok c _ => .got (putC .eye c)
def r5Data : R5 → PyData
  | .bad p => .tuple [.str "InvalidText", .tuple [.int p]]
  | .got r => rsData r
def soundZ (z : Str) : Bool := match dueZ z with
  | .got (.yes t) => decide (t.str = z)
  | _ => false
def NoTx (K : PySem.W.Frag) (H : Hp) (v : V) : Prop := (∃ t, TyX K H v t ∧ PySem.W.kitOne K t (.type "str") = some false) ∧ ∀ a, v = .ref a → (∃ xs, H a = some (.lst xs)) ∨ (∃ xs, H a = some (.tup xs)) ∨ ∃ C dx fs, H a = some (.ins C dx fs)
inductive Thing (K : PySem.W.Frag) (H : Hp) (v : V) : R5 → Prop
  | tx {z : Str} : v = .str z → Tx z → Thing K H v (dueZ z)
  | no : NoTx K H v → Thing K H v (.bad (-1))
def spIsAny (K : PySem.W.Frag) : Sp := fun vs H Q _ => ∃ (v : V), vs = [v] ∧ Cl H ∧ ((∃ z, v = .str z ∧ Tx z ∧ ∀ H', Ex H H' → Q (.bl (soundZ z)) H') ∨ (NoTx K H v ∧ ∀ H', Ex H H' → Q (.bl false) H'))
theorem exm_two {K : PySem.W.Frag} {cls c1 c2 : Value} {b1 b2 : Bool} (h1 : PySem.W.exmOne K cls c1 = some b1) (h2 : PySem.W.exmOne K cls c2 = some b2) : PySem.W.exmAny K cls [c1, c2] = some (b1 || b2) := by
  unfold PySem.W.exmAny
  rw [h1]
  unfold PySem.W.exmAny
  rw [h2]
  cases b1 <;> cases b2 <;> rfl
section
variable {P : Program} {w : World} {K : PySem.W.Frag} {mg : Str → Option Value} {base : Heap} {AA : Adr}
theorem ok_is_any (T : Txt K mg AA) (hw : AA.pp = w.params) : Pr P w K mg base "is_circle_text" s_is_circle_text p_is_circle_text 48 (spIsAny K) := by
  refine pr_mk T.f_is_circle_text sc_is_circle_text (fun vs H Q E h => ?_) (fun f cdv A outer s H vs Q E hr h => ?_)
  · obtain ⟨v, rfl, _⟩ := h
    rfl
  · obtain ⟨v, rfl, hcl, ho⟩ := h
    refine ⟨_, (pss_cons (ps_tryTup rfl rfl (fun W pn xe tk po => pss_one (ps_set (i := 1) sc_is_circle_text.nd rfl (.inl rfl) (pcallX (ok_read_circle T hw) hr tk (pa_cons (pv 0) pa_nil)))) rfl rfl T.e_InvalidText.gC T.e_TooMany.gC (by decide) (by decide) (fun e oe cls d pn hz hd => pss_one (ps_ret pe_bl)))
      (pss_one (ps_ret (pe_cmpR op_eq (pe_callTy (call_strOwn (ok_Circle___str T) hr) (by rfl) T.n_str PyProof.Rows.boot_str (pa_cons (pv 1) pa_nil)) (pv 0) (nomark _))))), ?_⟩
    have xT : PySem.W.exmAny K (.ref AA.InvalidText) [.ref AA.InvalidText, .ref AA.TooMany] = some true := (exm_two T.x_InvalidText_InvalidText T.x_InvalidText_TooMany)
    have xM : PySem.W.exmAny K (.ref AA.TooMany) [.ref AA.InvalidText, .ref AA.TooMany] = some true := (exm_two T.x_TooMany_InvalidText T.x_TooMany_TooMany)
    rcases ho with ⟨z, rfl, hz, q⟩ | ⟨hno, q⟩
    · have qb : ∀ p, readR (tl z) = .bad p → soundZ z = false := fun p hp => by
        unfold soundZ dueZ
        rw [hp]
      have qn : ∀ c j y, readR (tl z) = .ok c j → putC .eye c = .no y → soundZ z = false := fun c j y hr hy => by
        unfold soundZ dueZ
        rw [hr]
        show (match R5.got (putC .eye c) with | .got (.yes t) => decide (t.str = z) | _ => false) = false
        rw [hy]
      have qy : ∀ c j t, readR (tl z) = .ok c j → putC .eye c = .yes t → soundZ z = decide (t.str = z) := fun c j t hr ht => by
        unfold soundZ dueZ
        rw [hr]
        show (match R5.got (putC .eye c) with | .got (.yes t) => decide (t.str = z) | _ => false) = _
        rw [ht]
      refine ⟨_, rfl, .str z, rfl, hcl, .inl ⟨z, rfl, hz.okT, fun c j hr => ?_, fun p hp => ?_⟩⟩
      · obtain ⟨a1, a2, a3, a4, a5⟩ := hz.facts hr
        refine ⟨a2, a3, a4, fun t ht v H1 e1 hv => ?_, fun y hy d H' hd e1 hx => ⟨xM, fun e he => ?_⟩⟩
        · rw [qy c j t hr ht] at q
          have htn := putC_nice (fun n hn => eye_nice hn) c a2 t ht
          obtain ⟨p, dx, l, us, rfl, hp, hl, hcs⟩ := hv.at_
          have hfl := fine_len htn.fine
          refine ⟨_, rfl, p, dx, _, rfl, hp, _, t, rfl, hv, by omega, fun H2 e2 => ⟨_, rfl, _, rfl, rfl, ?_⟩⟩
          have e : decide (V.str t.str = V.str z) = decide (t.str = z) := by
            by_cases h : t.str = z
            · rw [h, decide_eq_true rfl, decide_eq_true rfl]
            · rw [decide_eq_false h, decide_eq_false fun g => h (V.str.inj g)]
          rw [e]
          exact q _ (e1.trans e2)
        · rw [qn c j y hr hy] at q
          exact q _ e1
      · rw [qb p hp] at q
        exact fun d H' hd e1 hx => ⟨xT, fun e he => q _ e1⟩
    · refine ⟨_, rfl, v, rfl, hcl, .inr ⟨hno.1, fun d H' hd e1 hx => ⟨xT, fun e he => q _ e1⟩⟩⟩
end
end Eyes

set_option Elab.async false
set_option linter.all false
set_option maxRecDepth 100000
set_option maxHeartbeats 4000000
namespace Eyes
open PySem PySem.Spec PyProof.Rows L2 Evl TL
def marksV (m : List (Option Bool)) : List V := m.reverse.map fun o => V.str (mkS o)
def spScan : Sp := fun vs H Q _ => ∃ (z : Str), vs = [.str z] ∧ Tx z ∧ ∀ p H', Ex H H' → H' p = some (.tup [.int ((scanA (tl z)).1 : Nat), .bl (scanA (tl z)).2]) → Q (.ref p) H'
theorem marksV_len (m : List (Option Bool)) : (marksV m).length = m.length := by
  unfold marksV
  rw [List.length_map, List.length_reverse]
theorem marksV_cons (o : Option Bool) (m : List (Option Bool)) : marksV (o :: m) = marksV m ++ [V.str (mkS o)] := by
  unfold marksV
  rw [List.reverse_cons, List.map_append]
  rfl
theorem marksV_cut (m : List (Option Bool)) (h : 1 ≤ m.length) : (marksV m).take (m.length - 1) = marksV m.tail := by
  cases m with
  | nil => exact absurd h (by decide)
  | cons o r =>
    rw [marksV_cons, List.length_cons, Nat.add_sub_cancel, List.take_left' (marksV_len r)]
    rfl
theorem marksV_last (o : Option Bool) (m : List (Option Bool)) : (marksV (o :: m))[m.length]? = some (V.str (mkS o)) := by
  rw [marksV_cons, List.getElem?_append_right (by rw [marksV_len]; exact Nat.le_refl _), marksV_len, Nat.sub_self]
  rfl
theorem eqV_int (a b : Int) : eqV (.int a) (.int b) = decide (b = a) := by
  show decide _ = decide _
  by_cases e : a = b
  · subst e
    exact (decide_eq_true rfl).trans (decide_eq_true rfl).symm
  · exact (decide_eq_false e).trans (decide_eq_false fun g => e g.symm).symm
theorem inV_int2 (n a b : Int) : inV (.int n) [.int a, .int b] = (decide (n = a) || decide (n = b)) := by
  show (eqV (.int a) (.int n) || (eqV (.int b) (.int n) || false)) = _
  rw [eqV_int, eqV_int, Bool.or_false]
theorem inV_int3 (n a b c : Int) : inV (.int n) [.int a, .int b, .int c] = (decide (n = a) || (decide (n = b) || decide (n = c))) := by
  show (eqV (.int a) (.int n) || (eqV (.int b) (.int n) || (eqV (.int c) (.int n) || false))) = _
  rw [eqV_int, eqV_int, eqV_int, Bool.or_false]
theorem inV_str2 (s a b : Str) : inV (.str s) [.str a, .str b] = (decide (s = a) || decide (s = b)) := by
  show (eqV (.str a) (.str s) || (eqV (.str b) (.str s) || false)) = _
  rw [Bool.or_false]
  have h : ∀ a : Str, eqV (.str a) (.str s) = decide (s = a) := fun a => by
    show decide _ = decide _
    by_cases e : a = s
    · subst e
      exact (decide_eq_true rfl).trans (decide_eq_true rfl).symm
    · exact (decide_eq_false e).trans (decide_eq_false fun g => e g.symm).symm
  rw [h, h]
theorem int_dec (n m : Nat) : decide (V.int (n : Int) = V.int (m : Int)) = (n == m) := by
  by_cases e : n = m
  · subst e
    exact (decide_eq_true rfl).trans (by simp)
  · exact (decide_eq_false fun h => e (by injection h with h; omega)).trans (by simpa using e)
theorem dec_nat (n m : Nat) : decide ((n : Int) = (m : Int)) = (n == m) := by
  by_cases e : n = m
  · subst e
    exact (decide_eq_true rfl).trans (by simp)
  · exact (decide_eq_false fun h => e (by omega)).trans (by simpa using e)
theorem last_eq (o : Option Bool) (b : Bool) : (decide (mkS o = Str.ofString "") || decide (mkS o = ⟨#[sgnN b]⟩)) = (some o == some none || some o == some (some b)) := by
  cases o with
  | none => cases b <;> decide +kernel
  | some k => cases k <;> cases b <;> decide +kernel
theorem nx_len {a : Au} {x : Nat} (h : goA a x = true) (h1 : 1 ≤ a.mks.length) (h2 : a.mks.length ≤ 21) : 1 ≤ (nxA a x).mks.length ∧ (nxA a x).mks.length ≤ 21 := by
  unfold goA at h
  unfold nxA
  by_cases c1 : isL x = true
  · rw [if_pos c1]
    exact ⟨h1, h2⟩
  · rw [if_neg c1] at h ⊢
    by_cases c2 : x = 40
    · rw [if_pos c2] at h ⊢
      have := of_decide_eq_true (Bool.and_eq_true_iff.mp h).2
      exact ⟨by show 1 ≤ a.mks.length + 1; omega, by show a.mks.length + 1 ≤ 21; omega⟩
    · rw [if_neg c2] at h ⊢
      by_cases c3 : x = 41
      · rw [if_pos c3] at h ⊢
        have := of_decide_eq_true (Bool.and_eq_true_iff.mp h).2
        refine ⟨?_, ?_⟩
        · show 1 ≤ a.mks.tail.length
          rw [List.length_tail]
          omega
        · show a.mks.tail.length ≤ 21
          rw [List.length_tail]
          omega
      · rw [if_neg c3] at h ⊢
        by_cases c4 : x = 32
        · rw [if_pos c4]
          exact ⟨h1, h2⟩
        · rw [if_neg c4] at h ⊢
          by_cases c5 : x = 38 ∨ x = 124
          · rw [if_pos c5]
            refine ⟨?_, ?_⟩
            · show 1 ≤ a.mks.tail.length + 1
              omega
            · show a.mks.tail.length + 1 ≤ 21
              rw [List.length_tail]
              omega
          · rw [if_neg c5] at h
            cases h
section
variable {P : Program} {w : World} {K : PySem.W.Frag} {mg : Str → Option Value} {base : Heap} {AA : Adr}
theorem ok_law_scan (T : Txt K mg AA) : Pr P w K mg base "_law_scan" s_law_scan p_law_scan 2 spScan := by
  refine pr_mk T.f_law_scan sc_law_scan (fun vs H Q E h => ?_) (fun f cdv A outer s H vs Q E hr h => ?_)
  · obtain ⟨z, rfl, _⟩ := h
    rfl
  · obtain ⟨z, rfl, hz, q⟩ := h
    refine ⟨_, (pss_cons (ps_par3 (i := 1) (j := 2) (l := 3) rfl sc_law_scan.nd rfl rfl rfl (by decide) (by decide) (by decide) rfl rfl rfl (pa_cons (pe_lst (pa_cons pe_str pa_nil)) (pa_cons pe_int (pa_cons pe_int pa_nil))) rfl)
      (pss_cons (ps_for PassesOwn.never rfl (pi_range1 (by rfl) T.n_range (pa_cons (pe_callB call_len_str (by rfl) T.n_len PySem.boot_len (pa_cons (pv 0) pa_nil)) pa_nil)) (pg_name (i := 4) sc_law_scan.nd rfl (.inl rfl))
      (pss_cons (ps_par (i := 5) (j := 6) rfl sc_law_scan.nd rfl rfl (by decide) rfl rfl (pa_cons (pe_ix ix_str (pv 0) (pv 4) (fun _ _ => rfl)) (pa_cons pe_bl pa_nil)) rfl)
      (Evl.pss_cut (ps_if (pt_cmpR op_in_sign (pv 5) pe_str rfl)
      (pss_cons (ps_set (i := 6) sc_law_scan.nd rfl (.inl rfl) (pe_or (pe_cmpR op_eq (pv 2) pe_int (nomark _)) (pe_one (pe_and (pe_cmpR op_eq (pv 2) pe_int (nomark _)) (pe_one (pe_cmpR op_lt (pv 3) pe_int (nomark _)))))))
      (pss_cons (ps_set (i := 3) sc_law_scan.nd rfl (.inl rfl) (pe_ifExp (pt_cmpR op_eq (pv 2) pe_int (nomark _)) (pe_op op_add (pv 3) pe_int) pe_int))
      (pss_one (ps_set (i := 2) sc_law_scan.nd rfl (.inl rfl) pe_int))))
      (pss_one (ps_if (pt_cmpR op_eq (pv 5) pe_str (nomark _))
      (pss_cons (ps_set (i := 6) sc_law_scan.nd rfl (.inl rfl) (pe_and (pe_cmpR op_eq (pv 2) pe_int (nomark _)) (pe_one (pe_cmpR op_lt (pe_callB (call_len_seqK (K := K) rfl) (by rfl) T.n_len PySem.boot_len (pa_cons (pv 1) pa_nil)) pe_int (nomark _)))))
      (pss_one (ps_expr (pe_bm PySem.F.plainAttrs_list PySem.F.slot_list_append PySem.F.type_list_append mt_append (pv 1) (pa_cons pe_str pa_nil)))))
      (pss_one (ps_if (pt_cmpR op_eq (pv 5) pe_str (nomark _))
      (pss_cons (ps_set (i := 6) sc_law_scan.nd rfl (.inl rfl) (pe_and (pe_cmpR (op_in_seqK (K := K) rfl) (pv 2) (pe_lst (pa_cons pe_int (pa_cons pe_int pa_nil))) (by rfl)) (pe_one (pe_cmpR op_gt (pe_callB (call_len_seqK (K := K) rfl) (by rfl) T.n_len PySem.boot_len (pa_cons (pv 1) pa_nil)) pe_int (nomark _)))))
      (pss_cons (ps_set (i := 1) sc_law_scan.nd rfl (.inl rfl) (pe_slice sl_list (pv 1) po_none (po_some (pe_op op_sub (pe_callB (call_len_seqK (K := K) rfl) (by rfl) T.n_len PySem.boot_len (pa_cons (pv 1) pa_nil)) pe_int))))
      (pss_one (ps_set (i := 2) sc_law_scan.nd rfl (.inl rfl) pe_int))))
      (pss_one (ps_if (pt_cmpR op_eq (pv 5) pe_str (nomark _))
      (pss_cons (ps_set (i := 6) sc_law_scan.nd rfl (.inl rfl) (pe_cmpR (op_in_seqK (K := K) rfl) (pv 2) (pe_lst (pa_cons pe_int (pa_cons pe_int (pa_cons pe_int pa_nil)))) (by rfl)))
      (pss_one (ps_set (i := 2) sc_law_scan.nd rfl (.inl rfl) (pe_ifExp (pt_cmpR op_eq (pv 2) pe_int (nomark _)) pe_int pe_int))))
      (pss_one (ps_if (pt_cmpR op_in_sign (pv 5) pe_str rfl)
      (pss_cons (ps_set (i := 6) sc_law_scan.nd rfl (.inl rfl) (pe_and (pe_cmpR op_eq (pv 2) pe_int (nomark _)) (pe_one (pe_cmpR (op_in_seqK (K := K) rfl) (pe_ix (ix_listK (K := K) rfl) (pv 1) (pe_op op_sub (pe_callB (call_len_seqK (K := K) rfl) (by rfl) T.n_len PySem.boot_len (pa_cons (pv 1) pa_nil)) pe_int) (fun _ _ => rfl)) (pe_lst (pa_cons pe_str (pa_cons (pv 5) pa_nil))) (by rfl)))))
      (pss_cons (ps_set (i := 1) sc_law_scan.nd rfl (.inl rfl) (pe_op op_cat (pe_slice sl_list (pv 1) po_none (po_some (pe_op op_sub (pe_callB (call_len_seqK (K := K) rfl) (by rfl) T.n_len PySem.boot_len (pa_cons (pv 1) pa_nil)) pe_int))) (pe_lst (pa_cons (pv 5) pa_nil))))
      (pss_one (ps_set (i := 2) sc_law_scan.nd rfl (.inl rfl) pe_int))))
      pss_nil)))))))))
      (pss_one (ps_if (pt_not (pt_val (pv 6)))
      (pss_one (ps_ret (pe_tup (pa_cons (pv 4) (pa_cons pe_bl pa_nil)))))
      pss_nil)))))
      (pss_one (ps_ret (pe_tup (pa_cons (pe_callB call_len_str (by rfl) T.n_len PySem.boot_len (pa_cons (pv 0) pa_nil)) (pa_cons (pe_and (pe_cmpR (op_in_seqK (K := K) rfl) (pv 2) (pe_lst (pa_cons pe_int (pa_cons pe_int pa_nil))) (by rfl)) (pe_one (pe_cmpR op_eq (pe_callB (call_len_seqK (K := K) rfl) (by rfl) T.n_len PySem.boot_len (pa_cons (pv 1) pa_nil)) pe_int (nomark _)))) pa_nil))))))), ?_⟩
    have hl := hz.len
    refine ⟨by show 1 ≤ sizeLine; decide, fun l hl0 => ⟨_, _, _, rfl, ?_⟩⟩
    refine ⟨_, rfl, z, rfl, sz_of (by omega), _, rfl, by omega, by omega, ?_⟩
    refine for_it walk_range (fun i σ H' => ∃ (a : Au) (l : Addr) (y4 y5 y6 : Option V), σ = [some (.str z), some (.ref l), some (.int (a.st : Nat)), some (.int (a.lt : Nat)), y4, y5, y6] ∧ Ex H H' ∧ H l = none ∧ H' l = some (.lst (marksV a.mks)) ∧ 1 ≤ a.mks.length ∧ a.mks.length ≤ 21 ∧ atA (tl z) a i = scanA (tl z)) ⟨⟨[none], 0, 0⟩, l, none, none, none, rfl, Ex.new hl0, hl0, upd_same, Nat.le_refl _, by show 1 ≤ 21; decide, rfl⟩ (fun _ _ _ _ _ => True.intro) (fun i v σ H3 H4 hi hp hy => ?_) (fun σ H' hp => ?_)
    · obtain ⟨rfl, rfl⟩ := hy
      obtain ⟨a, l, y4, y5, y6, rfl, e1, hln, h1, m1, m21, hat⟩ := hp
      show gName 4 (V.int (0 + (i : Int))) _ _ _
      rw [Int.zero_add]
      have hzl : (tl z).length = z.length := (len_tl z).symm
      have hi : i < (tl z).length := by rw [hzl]; omega
      obtain ⟨x, hx⟩ : ∃ x, (tl z)[i]? = some x := ⟨(tl z)[i], List.getElem?_eq_getElem hi⟩
      have hx' : atI z.cps.toList (i : Int) = some x := at_of' (by omega) hx
      refine ⟨_, rfl, _, rfl, z, _, x, rfl, rfl, sz_of (by omega), hx', _, _, rfl, ?_⟩
      have hlen := marksV_len a.mks
      refine ⟨fun σ H' => ∃ (l : Addr) (s' t' : V) (g : Bool), σ = [some (.str z), some (.ref l), some s', some t', some (.int (i : Int)), some (.str ⟨#[x]⟩), some (.bl g)] ∧ Ex H H' ∧ H l = none ∧ g = goA a x ∧ (g = true → H' l = some (.lst (marksV (nxA a x).mks)) ∧ s' = .int ((nxA a x).st : Nat) ∧ t' = .int ((nxA a x).lt : Nat)), ?_, fun σ H6 hM => ?_⟩
      · have hal : decide (x ∈ (Str.ofString "abcdefghijklmnopqrstuvwxyz").cps.toList) = isL x := by
          have h3 : (Str.ofString "abcdefghijklmnopqrstuvwxyz").cps.toList = (List.range 26).map (· + 97) := by decide +kernel
          rw [h3]
          cases hb : isL x with
          | true =>
            obtain ⟨b1, b2⟩ := isL_iff.mp hb
            exact decide_eq_true (List.mem_map.mpr ⟨x - 97, by rw [List.mem_range]; omega, by omega⟩)
          | false =>
            refine decide_eq_false fun h => ?_
            obtain ⟨k, hk, e⟩ := List.mem_map.mp h
            rw [List.mem_range] at hk
            have : isL x = true := isL_iff.mpr (by omega)
            rw [hb] at this
            cases this
        have hct : cutV (marksV a.mks) none (some ((((marksV a.mks).length : Nat) : Int) - 1)) = marksV a.mks.tail := by
          rw [hlen, show ((a.mks.length : Nat) : Int) - 1 = ((a.mks.length - 1 : Nat) : Int) by omega, cut_to]
          exact marksV_cut _ m1
        have in12 : inV (.int ((a.st : Nat) : Int)) [.int 1, .int 2] = (a.st == 1 || a.st == 2) := by
          rw [← dec_nat a.st 1, ← dec_nat a.st 2]
          exact inV_int2 _ _ _
        refine ⟨_, rfl, x, _, rfl, rfl, _, rfl, ?_⟩
        rw [hal]
        cases hL : isL x with
        | true =>
          have hgo : goA a x = (a.st == 0 || (a.st == 1 && decide (a.lt < 6))) := by
            unfold goA
            rw [if_pos hL]
          have hnx : nxA a x = ⟨a.mks, 1, if a.st = 1 then a.lt + 1 else 1⟩ := by
            unfold nxA
            rw [if_pos hL]
          rw [hgo, hnx]
          refine iteT ⟨_, rfl, rfl, _, rfl, ?_⟩
          show if decide (V.int ((a.st : Nat) : Int) = V.int ((0 : Nat) : Int)) = true then _ else _
          rw [int_dec]
          by_cases s0 : a.st = 0
          · rw [s0]
            refine iteT ⟨_, rfl, rfl, _, rfl, iteF ?_⟩
            exact ⟨l, _, _, _, rfl, e1, hln, rfl, fun _ => ⟨h1, rfl, rfl⟩⟩
          · have e0 : (a.st == 0) = false := by simpa using s0
            rw [e0]
            refine iteF ⟨_, rfl, rfl, _, rfl, ?_⟩
            show if decide (V.int ((a.st : Nat) : Int) = V.int ((1 : Nat) : Int)) = true then _ else _
            rw [int_dec]
            by_cases s1 : a.st = 1
            · rw [s1]
              refine iteT ⟨_, rfl, _, _, rfl, rfl, _, rfl, rfl, _, rfl, iteT ⟨_, rfl, _, _, rfl, rfl, ?_⟩⟩
              refine ⟨l, _, _, _, rfl, e1, hln, ?_, fun _ => ⟨h1, rfl, rfl⟩⟩
              show decide (((a.lt : Nat) : Int) < 6) = (false || (true && decide (a.lt < 6)))
              by_cases h6 : a.lt < 6
              · rw [decide_eq_true h6, decide_eq_true (by omega)]
                rfl
              · rw [decide_eq_false h6, decide_eq_false (by omega)]
                rfl
            · have e1' : (a.st == 1) = false := by simpa using s1
              rw [e1']
              refine iteF ⟨_, rfl, rfl, _, rfl, ?_⟩
              show if decide (V.int ((a.st : Nat) : Int) = V.int ((1 : Nat) : Int)) = true then _ else _
              rw [int_dec, e1']
              refine iteF ⟨l, _, _, _, rfl, e1, hln, rfl, fun h => by cases h⟩
        | false =>
          refine iteF ⟨_, rfl, rfl, _, rfl, ?_⟩
          show if decide (V.str ⟨#[x]⟩ = V.str ⟨#[40]⟩) = true then _ else _
          rw [sign_eq]
          by_cases h40 : x = 40
          · subst h40
            have hgo : goA a 40 = (a.st == 0 && decide (a.mks.length < 21)) := rfl
            have hnx : nxA a 40 = ⟨none :: a.mks, a.st, a.lt⟩ := rfl
            rw [hgo, hnx]
            refine iteT ⟨_, rfl, rfl, _, rfl, ?_⟩
            show if decide (V.int ((a.st : Nat) : Int) = V.int ((0 : Nat) : Int)) = true then _ else _
            rw [int_dec]
            cases s0 : (a.st == 0) with
            | true =>
              refine iteT ⟨_, rfl, l, _, rfl, .inl (sq_of h1), _, _, rfl, rfl, _, rfl, .inl ⟨rfl, _, sq_of h1⟩, l, _, _, rfl, rfl, h1, sz_lt (by rw [hlen]; omega), l, _, _, _, rfl, e1.mut hln, hln, ?_, fun _ => ⟨?_, rfl, rfl⟩⟩
              · rw [hlen]
                by_cases h6 : a.mks.length < 21
                · rw [decide_eq_true h6, decide_eq_true (by omega)]
                  rfl
                · rw [decide_eq_false h6, decide_eq_false (by omega)]
                  rfl
              · rw [upd_same, marksV_cons]
                rfl
            | false =>
              refine iteF ⟨_, rfl, .inl ⟨rfl, _, sq_of h1⟩, l, _, _, rfl, rfl, h1, sz_lt (by rw [hlen]; omega), l, _, _, _, rfl, e1.mut hln, hln, rfl, fun h => by cases h⟩
          · rw [decide_eq_false h40]
            refine iteF ⟨_, rfl, rfl, _, rfl, ?_⟩
            show if decide (V.str ⟨#[x]⟩ = V.str ⟨#[41]⟩) = true then _ else _
            rw [sign_eq]
            have hL' : ¬ isL x = true := by rw [hL]; exact Bool.false_ne_true
            by_cases h41 : x = 41
            · subst h41
              have hgo : goA a 41 = ((a.st == 1 || a.st == 2) && decide (1 < a.mks.length)) := rfl
              have hnx : nxA a 41 = ⟨a.mks.tail, 2, a.lt⟩ := rfl
              rw [hgo, hnx]
              refine iteT ⟨_, rfl, by show 2 ≤ sizeLine; decide, fun p hp => ?_⟩
              have h1p := Ex.new (o := .lst [V.int 1, V.int 2]) hp _ _ h1
              have e1p := e1.trans (Ex.new (o := .lst [V.int 1, V.int 2]) hp)
              refine ⟨p, _, rfl, .inl (sq_of upd_same), rfl, rfl, _, rfl, ?_⟩
              show if inV (V.int ((a.st : Nat) : Int)) [V.int 1, V.int 2] = true then _ else _
              rw [in12]
              generalize upd H4 p (.lst [V.int 1, V.int 2]) = H5 at h1p e1p
              cases g12 : (a.st == 1 || a.st == 2) with
              | true =>
                refine iteT ⟨_, rfl, l, _, rfl, .inl (sq_of h1p), _, _, rfl, rfl, _, rfl, _, rfl, l, _, rfl, .inl (sq_of h1p), _, _, rfl, rfl, _, rfl, l, _, rfl, sq_of h1p, fun l2 hl2 => ?_⟩
                rw [hct]
                refine ⟨l2, _, _, _, rfl, e1p.trans (Ex.new hl2), fresh_back e1p hl2, ?_, fun _ => ⟨upd_same, rfl, rfl⟩⟩
                rw [hlen]
                by_cases h6 : 1 < a.mks.length
                · rw [decide_eq_true h6, decide_eq_true (by omega)]
                  rfl
                · rw [decide_eq_false h6, decide_eq_false (by omega)]
                  rfl
              | false =>
                refine iteF ⟨_, rfl, _, rfl, l, _, rfl, .inl (sq_of h1p), _, _, rfl, rfl, _, rfl, l, _, rfl, sq_of h1p, fun l2 hl2 => ?_⟩
                exact ⟨l2, _, _, _, rfl, e1p.trans (Ex.new hl2), fresh_back e1p hl2, rfl, fun h => by cases h⟩
            · rw [decide_eq_false h41]
              refine iteF ⟨_, rfl, rfl, _, rfl, ?_⟩
              show if decide (V.str ⟨#[x]⟩ = V.str ⟨#[32]⟩) = true then _ else _
              rw [sign_eq]
              by_cases h32 : x = 32
              · subst h32
                have hgo : goA a 32 = (a.st == 1 || a.st == 2 || a.st == 4) := rfl
                have hnx : nxA a 32 = ⟨a.mks, if a.st = 4 then 0 else 3, a.lt⟩ := rfl
                rw [hgo, hnx]
                refine iteT ⟨_, rfl, by show 3 ≤ sizeLine; decide, fun p hp => ?_⟩
                have h1p := Ex.new (o := .lst [V.int 1, V.int 2, V.int 4]) hp _ _ h1
                have e1p := e1.trans (Ex.new (o := .lst [V.int 1, V.int 2, V.int 4]) hp)
                refine ⟨p, _, rfl, .inl (sq_of upd_same), rfl, rfl, ?_⟩
                refine ⟨_, rfl, rfl, _, rfl, ?_⟩
                show if decide (V.int ((a.st : Nat) : Int) = V.int ((4 : Nat) : Int)) = true then _ else _
                rw [int_dec]
                have in124 : inV (.int ((a.st : Nat) : Int)) [.int 1, .int 2, .int 4] = (a.st == 1 || a.st == 2 || a.st == 4) := by
                  rw [← dec_nat a.st 1, ← dec_nat a.st 2, ← dec_nat a.st 4, Bool.or_assoc]
                  exact inV_int3 _ _ _ _
                by_cases s4 : a.st = 4
                · have e4 : (a.st == 4) = true := by simpa using s4
                  rw [if_pos s4]
                  rw [e4] at in124 ⊢
                  exact iteT ⟨l, _, _, _, rfl, e1p, hln, in124, fun _ => ⟨h1p, rfl, rfl⟩⟩
                · have e4 : (a.st == 4) = false := by simpa using s4
                  rw [if_neg s4]
                  rw [e4] at in124 ⊢
                  exact iteF ⟨l, _, _, _, rfl, e1p, hln, in124, fun _ => ⟨h1p, rfl, rfl⟩⟩
              · rw [decide_eq_false h32]
                refine iteF ⟨_, rfl, x, _, rfl, rfl, _, rfl, ?_⟩
                have hin : decide (x ∈ (Str.ofString "&|").cps.toList) = decide (x = 38 ∨ x = 124) := by
                  have : (Str.ofString "&|").cps.toList = [38, 124] := by decide +kernel
                  rw [this]
                  simp
                rw [hin]
                by_cases hs : x = 38 ∨ x = 124
                · have hgo : goA a x = (a.st == 3 && (a.mks.head? == some none || a.mks.head? == some (sgn? x))) := by
                    unfold goA
                    rw [if_neg hL', if_neg h40, if_neg h41, if_neg h32, if_pos hs]
                  have hnx : nxA a x = ⟨sgn? x :: a.mks.tail, 4, a.lt⟩ := by
                    unfold nxA
                    rw [if_neg hL', if_neg h40, if_neg h41, if_neg h32, if_pos hs]
                  have hsg : (⟨#[x]⟩ : Str) = mkS (sgn? x) := by
                    rcases hs with rfl | rfl <;> rfl
                  rw [hgo, hnx, decide_eq_true hs]
                  have fin : ∀ H5, Ex H H5 → H5 l = some (.lst (marksV a.mks)) → ∀ l2, H5 l2 = none → ∀ l3, (upd H5 l2 (.lst (marksV a.mks.tail))) l3 = none → ∀ l4, (upd (upd H5 l2 (.lst (marksV a.mks.tail))) l3 (.lst [V.str ⟨#[x]⟩])) l4 = none → Ex H (upd (upd (upd H5 l2 (.lst (marksV a.mks.tail))) l3 (.lst [V.str ⟨#[x]⟩])) l4 (.lst (marksV a.mks.tail ++ [V.str ⟨#[x]⟩]))) ∧ H l4 = none ∧ (upd (upd (upd H5 l2 (.lst (marksV a.mks.tail))) l3 (.lst [V.str ⟨#[x]⟩])) l4 (.lst (marksV a.mks.tail ++ [V.str ⟨#[x]⟩]))) l4 = some (.lst (marksV (sgn? x :: a.mks.tail))) := fun H5 e5 h5 l2 hl2 l3 hl3 l4 hl4 => by
                    have ee := (e5.trans (Ex.new (o := .lst (marksV a.mks.tail)) hl2)).trans (Ex.new (o := .lst [V.str ⟨#[x]⟩]) hl3)
                    refine ⟨ee.trans (Ex.new hl4), fresh_back ee hl4, ?_⟩
                    rw [upd_same, marksV_cons, hsg]
                  refine iteT ⟨_, rfl, rfl, _, rfl, ?_⟩
                  show if decide (V.int ((a.st : Nat) : Int) = V.int ((3 : Nat) : Int)) = true then _ else _
                  rw [int_dec]
                  have hl2z : ∀ l2 : List V, l2.length ≤ 21 → l2.length + 1 ≤ 16777216 := fun _ _ => by omega
                  cases s3 : (a.st == 3) with
                  | true =>
                    obtain ⟨o, r, hor⟩ : ∃ o r, a.mks = o :: r := by
                      cases hm : a.mks with
                      | nil =>
                        rw [hm] at m1
                        exact absurd m1 (by decide)
                      | cons o r => exact ⟨o, r, rfl⟩
                    have hidx : (((marksV a.mks).length : Nat) : Int) - 1 = ((r.length : Nat) : Int) := by
                      rw [hlen, hor, List.length_cons]
                      omega
                    have hlast : (marksV a.mks)[r.length]? = some (V.str (mkS o)) := by
                      rw [hor]
                      exact marksV_last o r
                    refine iteT ⟨_, rfl, _, rfl, l, _, rfl, .inl (sq_of h1), _, _, rfl, rfl, l, _, _, V.str (mkS o), rfl, rfl, sq_of h1, at_of (j := r.length) hidx hlast, _, rfl, by show 2 ≤ sizeLine; decide, fun p hp => ?_⟩
                    have h1p := Ex.new (o := .lst [V.str (Str.ofString ""), V.str ⟨#[x]⟩]) hp _ _ h1
                    have e1p := e1.trans (Ex.new (o := .lst [V.str (Str.ofString ""), V.str ⟨#[x]⟩]) hp)
                    refine ⟨p, _, rfl, .inl (sq_of upd_same), rfl, rfl, ?_⟩
                    refine ⟨_, rfl, _, rfl, l, _, rfl, .inl (sq_of h1p), _, _, rfl, rfl, _, rfl, l, _, rfl, sq_of h1p, fun l2 hl2 => ?_⟩
                    rw [hct] at *
                    refine ⟨_, rfl, by show 1 ≤ sizeLine; decide, fun l3 hl3 => ⟨l2, l3, _, _, rfl, rfl, Ex.new hl3 _ _ upd_same, upd_same, sz_of ?_, fun l4 hl4 => ?_⟩⟩
                    · rw [marksV_len, List.length_tail]
                      show a.mks.length - 1 + 1 ≤ _
                      omega
                    · obtain ⟨f1, f2, f3⟩ := fin _ e1p h1p l2 hl2 l3 hl3 l4 hl4
                      refine ⟨l4, _, _, _, rfl, f1, f2, ?_, fun _ => ⟨f3, rfl, rfl⟩⟩
                      have hv : inV (V.str (mkS o)) [V.str (Str.ofString ""), V.str ⟨#[x]⟩] = (a.mks.head? == some none || a.mks.head? == some (sgn? x)) := by
                        rw [hor]
                        have := inV_str2 (mkS o) (Str.ofString "") ⟨#[x]⟩
                        refine this.trans ?_
                        rcases hs with rfl | rfl
                        · exact last_eq o true
                        · exact last_eq o false
                      exact hv
                  | false =>
                    refine iteF ⟨_, rfl, _, rfl, l, _, rfl, .inl (sq_of h1), _, _, rfl, rfl, _, rfl, l, _, rfl, sq_of h1, fun l2 hl2 => ?_⟩
                    rw [hct] at *
                    refine ⟨_, rfl, by show 1 ≤ sizeLine; decide, fun l3 hl3 => ⟨l2, l3, _, _, rfl, rfl, Ex.new hl3 _ _ upd_same, upd_same, sz_of ?_, fun l4 hl4 => ?_⟩⟩
                    · rw [marksV_len, List.length_tail]
                      show a.mks.length - 1 + 1 ≤ _
                      omega
                    · obtain ⟨f1, f2, f3⟩ := fin _ e1 h1 l2 hl2 l3 hl3 l4 hl4
                      exact ⟨l4, _, _, _, rfl, f1, f2, rfl, fun h => by cases h⟩
                · rw [decide_eq_false hs]
                  have hgo : goA a x = false := by
                    unfold goA
                    rw [if_neg hL', if_neg h40, if_neg h41, if_neg h32, if_neg hs]
                  rw [hgo]
                  exact iteF ⟨l, _, _, _, rfl, e1, hln, rfl, fun h => by cases h⟩
      · obtain ⟨l', s', t', g, rfl, e2, hln2, hg, hM⟩ := hM
        have hst := at_some (a := a) hx
        rw [hat] at hst
        refine ⟨_, rfl, _, rfl, ?_⟩
        cases g with
        | false =>
          rw [← hg, if_neg Bool.false_ne_true] at hst
          refine iteT ⟨_, rfl, by show 2 ≤ sizeLine; decide, fun p hp => q p _ (e2.trans (Ex.new hp)) ?_⟩
          rw [hst]
          exact upd_same
        | true =>
          rw [← hg, if_pos rfl] at hst
          obtain ⟨b1, rfl, rfl⟩ := hM rfl
          obtain ⟨c1, c2⟩ := nx_len (a := a) (x := x) hg.symm m1 m21
          exact iteF ⟨nxA a x, l', _, _, _, rfl, e2, hln2, b1, c1, c2, hst.symm⟩
    · obtain ⟨a, l, y4, y5, y6, rfl, e1, hln, h1, m1, m21, hat⟩ := hp
      have hzl : (tl z).length = z.length := (len_tl z).symm
      have hnz : ((z.length : Nat) : Int).toNat = (tl z).length := by rw [hzl]; omega
      rw [hnz] at hat
      have hfin := at_none (xs := tl z) (a := a) (i := (tl z).length) (List.getElem?_eq_none_iff.mpr (Nat.le_refl _))
      rw [hat] at hfin
      have in12 : inV (.int ((a.st : Nat) : Int)) [.int 1, .int 2] = (a.st == 1 || a.st == 2) := by
        rw [← dec_nat a.st 1, ← dec_nat a.st 2]
        exact inV_int2 _ _ _
      rw [hfin] at q
      have hacc : accA a = ((a.st == 1 || a.st == 2) && a.mks.length == 1) := rfl
      refine ⟨_, rfl, z, rfl, sz_of (by omega), _, rfl, by show 2 ≤ sizeLine; decide, fun p hp => ?_⟩
      have h1p := Ex.new (o := .lst [V.int 1, V.int 2]) hp _ _ h1
      have e1p := e1.trans (Ex.new (o := .lst [V.int 1, V.int 2]) hp)
      refine ⟨p, _, rfl, .inl (sq_of upd_same), rfl, rfl, _, rfl, ?_⟩
      show if inV (V.int ((a.st : Nat) : Int)) [V.int 1, V.int 2] = true then _ else _
      rw [in12]
      rw [hacc] at q
      cases g12 : (a.st == 1 || a.st == 2) with
      | true =>
        rw [g12] at q
        refine iteT ⟨_, rfl, l, _, rfl, .inl (sq_of h1p), rfl, by show 2 ≤ sizeLine; decide, fun p2 hp2 => q p2 _ (e1p.trans (Ex.new hp2)) ?_⟩
        rw [upd_same, hzl]
        have : decide (V.int (((marksV a.mks).length : Nat) : Int) = V.int 1) = (a.mks.length == 1) := by
          rw [marksV_len]
          exact int_dec a.mks.length 1
        rw [this]
        rfl
      | false =>
        rw [g12] at q
        refine iteF ⟨by show 2 ≤ sizeLine; decide, fun p2 hp2 => q p2 _ (e1p.trans (Ex.new hp2)) ?_⟩
        rw [upd_same, hzl]
        rfl
end
end Eyes

set_option Elab.async false
set_option linter.all false
set_option maxRecDepth 100000
set_option maxHeartbeats 4000000
namespace Eyes
open PySem PySem.Spec PyProof.Rows L2 Evl TL LamX
/-! ### the lambda's table -/
theorem TT_memA (AA : Adr) : (AA.tbA, (envOfC "_law_any_so" (defScope s_law_any_so) 0 0 .none).qual ++ "<lambda>") ∈ TT AA := .head _
section
variable {K : PySem.W.Frag} {mg : Str → Option Value} {AA : Adr}
theorem TT_unA (T : Txt K mg AA) : ∀ p ∈ TT AA, p.1 = AA.tbA → p.2 = (envOfC "_law_any_so" (defScope s_law_any_so) 0 0 .none).qual ++ "<lambda>" := fun p hp e => by
  rw [List.mem_singleton.mp hp]
end
end Eyes

set_option Elab.async false
set_option linter.all false
set_option maxRecDepth 100000
set_option maxHeartbeats 4000000
namespace Eyes
open PySem PySem.Spec PyProof.Rows L2 Evl TL LamX
theorem mapIdx_const {α β : Type} (f : α → β) : ∀ l : List α, l.mapIdx (fun _ x => f x) = l.map f
  | [] => rfl
  | x :: l => by
    rw [List.mapIdx_cons, List.map_cons, mapIdx_const f l]
theorem upper_tl (n : Str) : (Txt.upper n).cps.toList = (n.cps.toList.map Unicode.upperOf).flatten := by
  show (placed n fun _ c => Unicode.upperOf c).toList = _
  unfold placed
  rw [Array.toList_flatten, Array.toList_mapIdx, mapIdx_const (fun c => (Unicode.upperOf c).toArray), List.map_map]
  rfl
theorem upper_low : ∀ k : Fin 26, Unicode.upperOf (97 + k.val) = [65 + k.val] := by decide +kernel
theorem upper_len {l : List Nat} (h : ∀ x ∈ l, 97 ≤ x ∧ x ≤ 122) : (l.map Unicode.upperOf).flatten = l.map (· - 32) := by
  induction l with
  | nil => rfl
  | cons x l ih =>
    have h1 := h x List.mem_cons_self
    have h2 := upper_low ⟨x - 97, by omega⟩
    have e1 : 97 + (x - 97) = x := by omega
    have e2 : 65 + (x - 97) = x - 32 := by omega
    simp only [e1, e2] at h2
    rw [List.map_cons, List.flatten_cons, h2, ih fun y hy => h y (List.mem_cons_of_mem _ hy)]
    rfl
theorem upper_okS {n : Str} (h : nm n) : okS (Txt.upper n) := by
  have e : (Txt.upper n).cps.toList = n.cps.toList.map (· - 32) := (upper_tl n).trans (upper_len h.2.2)
  refine ⟨?_, fun c hc => ?_⟩
  · have e2 : (Txt.upper n).length = (Txt.upper n).cps.toList.length := Array.length_toList.symm
    have e3 : n.cps.toList.length = n.length := Array.length_toList
    have := h.2.1
    rw [e2, e, List.length_map, e3]
    omega
  · rw [e] at hc
    obtain ⟨d, hd, rfl⟩ := List.mem_map.mp hc
    have := h.2.2 d hd
    omega
/-! ### calls beside the bag, read -/
section
variable {K : PySem.W.Frag} {AA : Adr} {b : Addr} {G H : Hp} {Q : VK}
theorem circ_call {nd : V} {c : Ci} (hA : At b G H) (hr : Rep G nd c.data) (hnc : c.nice) (q : ∀ v' G' H', At b G' H' → Ex G G' → CiAt AA.Circle G' v' c → Q v' H') : spBag0 1 (spCirc AA.Circle 25) [nd] H Q (fun _ _ _ => False) := by
  have hd := hnc.2.2
  refine ⟨rfl, b, G, hA, fun G0 g0 hA0 c0 => ⟨nd, c, rfl, Rep.cut (Rep.mono g0 hr), by omega, hd, hnc.2.1, hnc.1, fun v' G' e' hv' u o1 => ?_⟩⟩
  obtain ⟨G2, g2, hA2, x2, _⟩ := bag_use hA0 c0 e' u o1
  exact q v' G2 _ hA2 (g0.trans g2) (hv'.cut.mono x2)
theorem put_call {nd : V} {D : Addr} {c : Ci} {kvs : List (Key × V)} {g : Str → Ci} (hA : At b G H) (hr : Rep G nd c.data) (hnc : c.nice) (hD : G D = some (.dK kvs)) (hent : EntN G kvs g) (hg : ∀ n, nm n → (g n).nice)
    (q : ∀ v' G' H', At b G' H' → Ex G G' → Rep G' v' (rsData (putC g c)) → Q v' H') : spBag0 2 (spLput 25) [nd, .ref D] H Q (fun _ _ _ => False) := by
  have hd := hnc.2.2
  refine ⟨rfl, b, G, hA, fun G0 g0 hA0 c0 => ⟨nd, D, c, g, rfl, Rep.cut (Rep.mono g0 hr), hnc, by omega, (hent.mono g0).tab (g0 _ _ hD), hg, fun v' G' e' hv' u o1 => ?_⟩⟩
  obtain ⟨G2, g2, hA2, x2, _⟩ := bag_use hA0 c0 e' u o1
  exact q v' G2 _ hA2 (g0.trans g2) (Rep.mono x2 (Rep.cut hv'))
theorem mir_call {v : V} {c : Ci} (hA : At b G H) (hc : CiAt AA.Circle G v c) (hnc : c.nice) (q : ∀ v' G' H', At b G' H' → Ex G G' → CiAt AA.Circle G' v' (flip c) → Q v' H') : spBag0 1 (spMir AA 25) [v] H Q (fun _ _ _ => False) := by
  have hd := hnc.2.2
  refine ⟨rfl, b, G, hA, fun G0 g0 hA0 c0 => ⟨v, c, rfl, c0, (hc.mono g0).cut, hnc, by omega, fun v' G' e' hv' u o1 => ?_⟩⟩
  obtain ⟨G2, g2, hA2, x2, _⟩ := bag_use hA0 c0 e' u o1
  exact q v' G2 _ hA2 (g0.trans g2) (hv'.cut.mono x2)
theorem cin_call {v : V} {c : Ci} (hA : At b G H) (hc : CiAt AA.Circle G v c) (hnc : c.nice) (q : ∀ l ws G' H', At b G' H' → Ex G G' → G l = none → G' l = some (.lst ws) → CisAt AA.Circle G' ws (cin c) → Q (.ref l) H') : spBag0 1 (spCin AA 25) [v] H Q (fun _ _ _ => False) := by
  have hd := hnc.2.2
  refine ⟨rfl, b, G, hA, fun G0 g0 hA0 c0 => ⟨v, c, rfl, c0, (hc.mono g0).cut, hnc, by omega, fun l ws G' hl e' hl' hw u o1 => ?_⟩⟩
  obtain ⟨G2, g2, hA2, x2, _⟩ := bag_use hA0 c0 e' u o1
  refine q l ws G2 _ hA2 (g0.trans g2) ?_ (x2 _ _ (cut_lst hl')) ((CisAt.cut hw).mono x2)
  cases z : G l with
  | none => rfl
  | some o =>
    have z1 := hA.ex _ _ z
    have z2 := u l o z1 hl
    rw [hl'] at z2
    cases z2
theorem exch_names {v : V} {c : Ci} {sx sy : Str} (hA : At b G H) (hc : CiAt AA.Circle G v c) (hnc : c.nice) (hx : nm sx) (hy : nm sy) (q : ∀ v' G' H', At b G' H' → Ex G G' → CiAt AA.Circle G' v' (mapC false (swp2 sx sy) c) → Q v' H') : spBag0 3 (spExch K AA) [v, .str sx, .str sy] H Q (fun _ _ _ => False) := by
  refine ⟨rfl, b, G, hA, fun G0 g0 hA0 c0 => ⟨v, .str sx, .str sy, c, .s sx, .s sy, rfl, c0, (hc.mono g0).cut, hnc, ⟨rfl, nm_okS hx⟩, ⟨rfl, nm_okS hy⟩, fun _ _ x' y' e1 e2 _ _ v' G' e' hv' u o1 => ?_, fun z => ?_, fun _ z => ?_⟩⟩
  · cases e1
    cases e2
    obtain ⟨G2, g2, hA2, x2, _⟩ := bag_use hA0 c0 e' u o1
    exact q v' G2 _ hA2 (g0.trans g2) (hv'.cut.mono x2)
  · have z : nameS sx = false := z
    rw [nm_name hx] at z
    cases z
  · have z : nameS sy = false := z
    rw [nm_name hy] at z
    cases z
theorem TyX.cut {v : V} {t : Value} (h : TyX K G v t) (s : ∀ a, v = .ref a → (∃ xs, G a = some (.lst xs)) ∨ (∃ xs, G a = some (.tup xs)) ∨ ∃ C dx fs, G a = some (.ins C dx fs)) : TyX K (cutH G) v t := by
  have no : ∀ {a : Addr} {o : HO} {p : Prop}, v = .ref a → G a = some o → (∀ xs, o ≠ .lst xs) → (∀ xs, o ≠ .tup xs) → (∀ C dx fs, o ≠ .ins C dx fs) → p := fun {a o p} e z n1 n2 n3 => by
    rcases s a e with ⟨xs, h⟩ | ⟨xs, h⟩ | ⟨C, dx, fs, h⟩
    · rw [z] at h
      cases h
      exact absurd rfl (n1 _)
    · rw [z] at h
      cases h
      exact absurd rfl (n2 _)
    · rw [z] at h
      cases h
      exact absurd rfl (n3 _ _ _)
  cases h with
  | base h =>
    cases h with
    | non => exact .base .non
    | bl b => exact .base (.bl b)
    | int b => exact .base (.int b)
    | str b => exact .base (.str b)
    | flt b => exact .base (.flt b)
    | lst h => exact .base (.lst (cut_lst h))
    | frz h => exact no rfl h (fun _ => nofun) (fun _ => nofun) (fun _ _ _ => nofun)
    | tup h => exact .base (.tup (cut_tup h))
    | dK h => exact no rfl h (fun _ => nofun) (fun _ => nofun) (fun _ _ _ => nofun)
    | dT h => exact no rfl h (fun _ => nofun) (fun _ => nofun) (fun _ _ _ => nofun)
    | ins h h1 h2 h3 h4 h5 => exact .base (.ins (cut_ins h) h1 h2 h3 h4 h5)
  | byt b => exact .byt b
  | set h => exact no rfl h (fun _ => nofun) (fun _ => nofun) (fun _ _ _ => nofun)
  | kList h c => exact .kList h c
  | kTuple h c => exact .kTuple h c
  | kDict h c => exact .kDict h c
  | fTuple h => exact no rfl h (fun _ => nofun) (fun _ => nofun) (fun _ _ _ => nofun)
  | fDict h => exact no rfl h (fun _ => nofun) (fun _ => nofun) (fun _ _ _ => nofun)
theorem Knd.cut {v : V} {k : Tk} {C : Addr} {n : Nat} (h : Knd K G v k) (s : Sm C G n v v) : Knd K (cutH G) v k := by
  cases k with
  | s z => exact h
  | i z => exact h
  | b z => exact h
  | o =>
    obtain ⟨t, h1, h2⟩ := h
    refine ⟨t, TyX.cut h1 fun a e => ?_, h2⟩
    subst e
    cases s with
    | sc h => rcases h with h | ⟨_, h⟩ | ⟨_, h⟩ | ⟨_, h⟩ <;> cases h
    | ci h _ _ =>
      obtain ⟨p, dx, l, us, e, hp, _, _⟩ := h.at_
      cases e
      exact .inr (.inr ⟨_, _, _, hp⟩)
    | lst h _ _ _ _ => exact .inl ⟨_, h⟩
    | tup h _ _ _ _ => exact .inr (.inl ⟨_, h⟩)
theorem Knd.exN {G' : Hp} {v : V} {k : Tk} (e : ExtN G G') (h : Knd K G v k) : Knd K G' v k := by
  cases k with
  | s z => exact h
  | i z => exact h
  | b z => exact h
  | o =>
    obtain ⟨t, h1, h2⟩ := h
    exact ⟨t, TyX.exN e h1, h2⟩
theorem tWhy2.imp {t1 t2 : XK → Hp → VK → Prop} {R : VK} (h : ∀ E H Q, t1 E H Q → t2 E H Q) (g : tWhy2 AA t1 H R) : tWhy2 AA t2 H R := by
  obtain ⟨E1, Q1, h1, h2, h3⟩ := g
  exact ⟨E1, Q1, h _ _ _ h1, h2, h3⟩
theorem why_exch {v x y : V} {c : Ci} {kx ky : Tk} {nx ny : Nat} {R : VK} (hA : At b G H) (hT : Tabs (TT AA) G) (hc : CiAt AA.Circle G v c) (hnc : c.nice) (hx : Knd K G x kx) (sx : Sm AA.Circle G nx x x) (hy : Knd K G y ky) (sy : Sm AA.Circle G ny y y)
    (r1 : nameK kx = true → nameK ky = true → ∀ p1 p2 G' H', At b G' H' → ExtN G G' → Tabs (TT AA) G' → G' p1 = some (.tup []) → G' p2 = some (.tup [.str "", .ref p1]) → R (.ref p2) H')
    (r2 : ∀ z, (nameK kx = false ∧ z = x ∨ nameK kx = true ∧ nameK ky = false ∧ z = y) → ∀ p1 p2 G' H', At b G' H' → ExtN G G' → Tabs (TT AA) G' → G' p1 = some (.tup [z]) → G' p2 = some (.tup [.str "InvalidName", .ref p1]) → R (.ref p2) H') :
    tWhy2 AA (fun E H Q => spBagX 3 (spExch K AA) [v, x, y] H Q E) H R := by
  refine ⟨fun cls d H1 => ∃ G2 dd z, At b G2 H1 ∧ Ex G G2 ∧ (nameK kx = false ∧ z = x ∨ nameK kx = true ∧ nameK ky = false ∧ z = y) ∧ cls = .ref AA.InvalidName ∧ d = some dd ∧ G2 dd = some (.xd [("value", z)]), fun v' H1 => nameK kx = true ∧ nameK ky = true ∧ ∃ G2, At b G2 H1 ∧ Ex G G2,
    ⟨rfl, b, G, hA, fun G0 g0 hA0 c0 => ⟨v, x, y, c, kx, ky, rfl, c0, (hc.mono g0).cut, hnc, (hx.mono g0).cut (sx.mono g0), (hy.mono g0).cut (sy.mono g0), fun hkx hky _ _ _ _ _ _ v' G' e' hv' u o1 => ?_, fun hkx dd G' hdd e' hxd u o1 => ?_, fun hkx hky dd G' hdd e' hxd u o1 => ?_⟩⟩, fun v' H1 h p1 p2 H' e h1 h2 => ?_, fun cls d H1 h => ?_⟩
  · obtain ⟨G2, g2, hA2, x2, _⟩ := bag_use hA0 c0 e' u o1
    exact ⟨hkx, hky, G2, hA2, g0.trans g2⟩
  · obtain ⟨G2, g2, hA2, x2, _⟩ := bag_use hA0 c0 e' u o1
    exact ⟨G2, dd, x, hA2, g0.trans g2, .inl ⟨hkx, rfl⟩, rfl, rfl, x2 _ _ (cut_xd hxd)⟩
  · obtain ⟨G2, g2, hA2, x2, _⟩ := bag_use hA0 c0 e' u o1
    exact ⟨G2, dd, y, hA2, g0.trans g2, .inr ⟨hkx, hky, rfl⟩, rfl, rfl, x2 _ _ (cut_xd hxd)⟩
  · obtain ⟨hkx, hky, G2, hA2, g2⟩ := h
    obtain ⟨G3, hA3, g3, h3⟩ := hA2.tup e
    exact r1 hkx hky p1 p2 G3 H' hA3 (ExtN.of (g2.trans g3)) ((hT.ext g2).ext g3) (h3 _ _ h1) (h3 _ _ h2)
  · obtain ⟨G2, dd, z, hA2, g2, hz, rfl, rfl, hxd⟩ := h
    refine .inl ⟨rfl, dd, z, rfl, hA2.ex _ _ hxd, fun p1 p2 H' e h1 h2 => ?_⟩
    obtain ⟨G3, hA3, g3, h3⟩ := hA2.tup e
    exact r2 z hz p1 p2 G3 H' hA3 (ExtN.of (g2.trans g3)) ((hT.ext g2).ext g3) (h3 _ _ h1) (h3 _ _ h2)
theorem ent_swap {t1 t2 : V} {sx sy : Str} (h1 : Rep G t1 (Ci.eye sy).data) (h2 : Rep G t2 (Ci.eye sx).data) : EntN G (mergeK [] [(Sum.inr sx, t1), (Sum.inr sy, t2)]) (fun n => .eye (swp2 sx sy n)) := fun n hn => by
  show (∃ v, valV (putK (putK [] (Sum.inr sx) t1) (Sum.inr sy) t2) (Sum.inr n) = some v ∧ _) ∨ valV (putK (putK [] (Sum.inr sx) t1) (Sum.inr sy) t2) (Sum.inr n) = none ∧ _
  rw [valV_put, valV_put]
  by_cases e1 : n = sy
  · subst e1
    refine .inl ⟨t2, if_pos rfl, ?_⟩
    show Rep G t2 (Ci.eye (swp2 sx n n)).data
    rw [swp2_right]
    exact h2
  · rw [if_neg (fun z => e1 (key_eq.mp z))]
    by_cases e2 : n = sx
    · subst e2
      refine .inl ⟨t1, if_pos rfl, ?_⟩
      show Rep G t1 (Ci.eye (swp2 n sy n)).data
      rw [swp2_left]
      exact h1
    · refine .inr ⟨if_neg (fun z => e2 (key_eq.mp z)), ?_⟩
      show Ci.eye (swp2 sx sy n) = _
      rw [swp2_other e2 e1]
theorem turn_call {nd : V} {c : Ci} (hA : At b G H) (hr : Rep G nd c.data) (hnc : c.nice) (q : ∀ v' G' H', At b G' H' → Ex G G' → Rep G' v' (flip c).data → Q v' H') : spBag0 1 (spTurn 25) [nd] H Q (fun _ _ _ => False) := by
  have hd := hnc.2.2
  refine ⟨rfl, b, G, hA, fun G0 g0 hA0 c0 => ⟨nd, c, rfl, Rep.cut (Rep.mono g0 hr), hnc, by omega, fun v' G' e' hv' u o1 => ?_⟩⟩
  obtain ⟨G2, g2, hA2, x2, _⟩ := bag_use hA0 c0 e' u o1
  exact q v' G2 _ hA2 (g0.trans g2) (Rep.mono x2 (Rep.cut hv'))
theorem within_call {nd : V} {c : Ci} (hA : At b G H) (hr : Rep G nd c.data) (hnc : c.nice) (q : ∀ l us G' H', At b G' H' → Ex G G' → G' l = some (.lst us) → Reps G' us (datas (cin c)) → Q (.ref l) H') : spBag0 1 spWithin [nd] H Q (fun _ _ _ => False) := by
  refine ⟨rfl, b, G, hA, fun G0 g0 hA0 c0 => ⟨nd, c, rfl, Rep.cut (Rep.mono g0 hr), hnc, fun l us G' hl e' hl' hw u o1 => ?_⟩⟩
  obtain ⟨G2, g2, hA2, x2, _⟩ := bag_use hA0 c0 e' u o1
  exact q l us G2 _ hA2 (g0.trans g2) (x2 _ _ (cut_lst hl')) (Reps.mono2 (fun a xs z => x2 _ _ (cut_lst z)) (fun a xs z => x2 _ _ (cut_tup z)) hw)
theorem putin_call {v : V} {d : Addr} {c : Ci} {g : Str → Ci} {E : XK} (hA : At b G H) (hc : CiAt AA.Circle G v c) (hnc : c.nice) (hI : ImgAt AA.Circle G d g) (hg : ∀ n, nm n → (g n).nice)
    (q : ∀ c' v' G' H', putC g c = .yes c' → At b G' H' → Ex G G' → CiAt AA.Circle G' v' c' → Q v' H')
    (qx : ∀ z dd G' H', putC g c = .no z → At b G' H' → Ex G G' → G' dd = some (.xd [("most", .int z.2), ("what", .str z.1)]) → E (.ref AA.TooMany) (some dd) H') : spBagX 2 (spPut AA 25) [v, .ref d] H Q E := by
  have hd := hnc.2.2
  refine ⟨rfl, b, G, hA, fun G0 g0 hA0 c0 => ⟨v, d, c, g, rfl, c0, (hc.mono g0).cut, hnc, by omega, (hI.mono g0).cut, hg, fun c' hc' v' G' e' hv' u o1 => ?_, fun z hz dd G' hdd e' hx u o1 => ?_⟩⟩
  · obtain ⟨G2, g2, hA2, x2, _⟩ := bag_use hA0 c0 e' u o1
    exact q c' v' G2 _ hc' hA2 (g0.trans g2) (hv'.cut.mono x2)
  · obtain ⟨G2, g2, hA2, x2, _⟩ := bag_use hA0 c0 e' u o1
    exact qx z dd G2 _ hz hA2 (g0.trans g2) (x2 _ _ (cut_xd hx))
theorem try_gen {tl : XK → Hp → VK → Prop} {r : Rs Ci} {R : VK} (hT : Tabs (TT AA) G)
    (body : ∀ E Q, (∀ c' v' G2 H1, r = .yes c' → At b G2 H1 → Ex G G2 → CiAt AA.Circle G2 v' c' → Q v' H1) → (∀ z dd G2 H1, r = .no z → At b G2 H1 → Ex G G2 → G2 dd = some (.xd [("most", .int z.2), ("what", .str z.1)]) → E (.ref AA.TooMany) (some dd) H1) → tl E H Q)
    (hR : ∀ f G' H', At b G' H' → ExtN G G' → Tabs (TT AA) G' → FoundAt AA.Circle G' f r → R f H') : tTry2 AA tl H R := by
  refine ⟨fun cls d H1 => ∃ G2 z dd, At b G2 H1 ∧ Ex G G2 ∧ r = .no z ∧ cls = .ref AA.TooMany ∧ d = some dd ∧ G2 dd = some (.xd [("most", .int z.2), ("what", .str z.1)]), fun v' H1 => ∃ G2 c', At b G2 H1 ∧ Ex G G2 ∧ r = .yes c' ∧ CiAt AA.Circle G2 v' c',
    body _ _ (fun c' v' G2 H1 h1 h2 h3 h4 => ⟨G2, c', h2, h3, h1, h4⟩) (fun z dd G2 H1 h1 h2 h3 h4 => ⟨G2, z, dd, h2, h3, h1, rfl, rfl, h4⟩), fun v' H1 h p H' e hp => ?_, fun cls d H1 h => ?_⟩
  · obtain ⟨G2, c', hA2, g2, hc', hv'⟩ := h
    obtain ⟨G3, hA3, g3, h3⟩ := hA2.tup e
    refine hR _ G3 H' hA3 (ExtN.of (g2.trans g3)) ((hT.ext g2).ext g3) ?_
    rw [hc']
    exact ⟨p, v', rfl, h3 _ _ hp, hv'.mono g3⟩
  · obtain ⟨G2, z, dd, hA2, g2, hz, rfl, rfl, hx⟩ := h
    refine .inr ⟨rfl, dd, _, _, rfl, hA2.ex _ _ hx, fun p1 p2 H' e h1 h2 => ?_⟩
    obtain ⟨G3, hA3, g3, h3⟩ := hA2.tup e
    refine hR _ G3 H' hA3 (ExtN.of (g2.trans g3)) ((hT.ext g2).ext g3) ?_
    rw [hz]
    exact .tup (h3 _ _ h2) (.cons (.str _) (.cons (.tup (h3 _ _ h1) (.cons (.str _) (.cons (.int _) .nil))) .nil))
def oneI (y : Str) (c : Ci) (n : Str) : Ci := if n = y then c else .eye n
theorem oneI_nice {y : Str} {c : Ci} (h : c.nice) : ∀ n, nm n → (oneI y c n).nice := fun n hn => by
  unfold oneI
  split
  · exact h
  · exact nice_eye hn
theorem img_one {C : Addr} {d : Addr} {y : Str} {c : Ci} {v : V} (hd : G d = some (.dK (mergeK [] [(Sum.inr y, v)]))) (hv : CiAt C G v c) : ImgAt C G d (oneI y c) := by
  refine ⟨_, hd, fun n hn => ?_⟩
  show (∃ v', valV (putK [] (Sum.inr y) v) (Sum.inr n) = some v' ∧ CiAt C G v' (oneI y c n)) ∨ valV (putK [] (Sum.inr y) v) (Sum.inr n) = none ∧ oneI y c n = .eye n
  rw [valV_put]
  unfold oneI
  by_cases e : n = y
  · rw [if_pos (key_eq.mpr e), if_pos e]
    exact .inl ⟨v, rfl, hv⟩
  · rw [if_neg (fun z => e (key_eq.mp z)), if_neg e]
    exact .inr ⟨rfl, rfl⟩
theorem ent_one {y : Str} {c : Ci} {v : V} (hv : Rep G v c.data) : EntN G (mergeK [] [(Sum.inr y, v)]) (oneI y c) := fun n hn => by
  show (∃ v', valV (putK [] (Sum.inr y) v) (Sum.inr n) = some v' ∧ Rep G v' (oneI y c n).data) ∨ valV (putK [] (Sum.inr y) v) (Sum.inr n) = none ∧ oneI y c n = .eye n
  rw [valV_put]
  unfold oneI
  by_cases e : n = y
  · rw [if_pos (key_eq.mpr e), if_pos e]
    exact .inl ⟨v, rfl, hv⟩
  · rw [if_neg (fun z => e (key_eq.mp z)), if_neg e]
    exact .inr ⟨rfl, rfl⟩
theorem flip_flip (c : Ci) : flip (flip c) = c := mapC_inv Sw.id c
theorem put_flip {y : Str} {c x : Ci} (hc : c.ok) (hx : x.nice) : putC (oneI y (flip x)) (flip c) = (putC (oneI y x) c).map flip :=
  putC_mapC (f := true) Sw.id (oneI_nice hx) (fun n _ => by
    unfold oneI
    by_cases e : n = y
    · rw [if_pos e, if_pos e]
    · rw [if_neg e, if_neg e]
      rfl) c hc
end
end Eyes

set_option Elab.async false
set_option linter.all false
set_option maxRecDepth 100000
set_option maxHeartbeats 4000000
namespace Eyes
open PySem PySem.Spec PyProof.Rows L2 Evl TL LamX
def spRead5 (K : PySem.W.Frag) : Sp := fun vs H Q _ => ∃ (v : V) (r : R5), vs = [v] ∧ Thing K H v r ∧ ∀ v' H', Ex H H' → Rep H' v' (r5Data r) → Q v' H'
def Told3 (AA : Adr) (Q : VK) : XK := fun cls d H1 => (cls = .ref AA.InvalidText ∧ ∃ (dd : Addr) (v : V), d = some dd ∧ H1 dd = some (.xd [("at", v)]) ∧ ∀ p1 p2 H', Ex H1 H' → H' p1 = some (.tup [v]) → H' p2 = some (.tup [.str "InvalidText", .ref p1]) → Q (.ref p2) H') ∨
  (cls = .ref AA.TooMany ∧ ∃ (dd : Addr) (a b : V), d = some dd ∧ H1 dd = some (.xd [("most", b), ("what", a)]) ∧ ∀ p1 p2 H', Ex H1 H' → H' p1 = some (.tup [a, b]) → H' p2 = some (.tup [.str "TooMany", .ref p1]) → Q (.ref p2) H')
def tTry3 (AA : Adr) : (XK → Hp → VK → Prop) → Hp → VK → Prop := fun tl H Q => ∃ (E1 : XK) (Q1 : VK), tl E1 H Q1 ∧ (∀ v H1, Q1 v H1 → ∀ p H', Ex H1 H' → H' p = some (.tup [.str "", v]) → Q (.ref p) H') ∧ ∀ cls d H1, E1 cls d H1 → Told3 AA Q cls d H1
def FoundAt5 (C : Addr) (H : Hp) (f : V) : R5 → Prop
  | .bad p => Rep H f (r5Data (.bad p))
  | .got r => FoundAt C H f r
theorem FoundAt5.mono {C : Addr} {H H' : Hp} {f : V} {r : R5} (h : FoundAt5 C H f r) (e : Ex H H') : FoundAt5 C H' f r := by
  cases r with
  | bad p => exact Rep.mono e h
  | got r => exact FoundAt.mono h e
def spAs5 (AA : Adr) : Sp := fun vs H Q _ => ∃ (f d : V) (r : R5), vs = [f, d] ∧ FoundAt5 AA.Circle H f r ∧ Rep H d (r5Data r) ∧ (∀ c, r = .got (.yes c) → c.nice) ∧ ∀ H', Ex H H' → Q (.bl true) H'
theorem Rep.bad_at {H : Hp} {v : V} {p : Int} (h : Rep H v (r5Data (.bad p))) : ∃ a q, v = .ref a ∧ H a = some (.tup [.str "InvalidText", .ref q]) ∧ H q = some (.tup [.int p]) := by
  have h : Rep H v (.tuple [.str "InvalidText", .tuple [.int p]]) := h
  cases h with
  | tup h r =>
    cases r with
    | cons h1 r =>
      cases r with
      | cons h2 r =>
        cases r
        cases h1
        cases h2 with
        | tup h3 r3 =>
          cases r3 with
          | cons h4 r3 =>
            cases r3
            cases h4
            exact ⟨_, _, rfl, h, h3⟩
section
variable {P : Program} {w : World} {K : PySem.W.Frag} {mg : Str → Option Value} {base : Heap} {AA : Adr}
theorem ok_law_read (T : Txt K mg AA) : Pr P w K mg base "_law_read" s_law_read p_law_read 72 (spRead5 K) := by
  refine pr_mk T.f_law_read sc_law_read (fun vs H Q E h => ?_) (fun f cdv A outer s H vs Q E hr h => ?_)
  · obtain ⟨v, r, rfl, _⟩ := h
    rfl
  · obtain ⟨v, r, rfl, ht, q⟩ := h
    refine ⟨_, (pss_cons (ps_if (pt_not (pt_val (pe_callB (call_isiK (K := K) rfl) (by rfl) T.n_isinstance PyProof.Rows.boot_isinstance (pa_cons (pv 0) (pa_cons (pe_bltn (v := .ty "str") (by rfl) T.n_str (by decide +kernel) rfl) pa_nil)))))
      (pss_one (ps_ret (pe_tup (pa_cons pe_str (pa_cons (pe_tup (pa_cons (pe_un un_neg pe_int) pa_nil)) pa_nil)))))
      pss_nil)
      (pss_cons (ps_asg (pcall (ok_law_scan T) hr (pa_cons (pv 0) pa_nil)) (pg_tup (by rfl) (pgs_cons (pg_name (i := 1) sc_law_read.nd rfl (.inl rfl)) (pgs_cons (pg_name (i := 2) sc_law_read.nd rfl (.inl rfl)) pgs_nil))))
      (pss_one (ps_ret (pe_ifExp (pt_val (pv 2)) (pcall (ok_law_read_good T 42) hr (pa_cons (pv 0) pa_nil)) (pe_tup (pa_cons pe_str (pa_cons (pe_tup (pa_cons (pv 1) pa_nil)) pa_nil)))))))), ?_⟩
    cases ht with
    | @tx z hv hz =>
      subst hv
      refine ⟨_, rfl, .str z, .ty "str", _, _, _, rfl, .ty _, .base (.str z), kit_ty (r := true) (by decide +kernel), ⟨_, rfl, iteF ?_⟩⟩
      refine ⟨_, rfl, z, rfl, hz, fun p H1 e1 h1 => ⟨p, _, rfl, st_of h1, rfl, _, _, rfl, _, _, rfl, rfl, ?_⟩⟩
      obtain ⟨s1, s2⟩ := scan_read (xs := tl z) (fun d i c j h => item_adv h)
      unfold dueZ at q
      cases hr : readR (tl z) with
      | bad e =>
        have := s2 e hr
        rw [this]
        rw [hr] at q
        refine ⟨_, rfl, _, rfl, iteF ⟨_, rfl, by show 1 ≤ sizeLine; decide, fun p1 hp1 => ⟨by show 2 ≤ sizeLine; decide, fun p2 hp2 => ?_⟩⟩⟩
        exact q _ _ ((e1.trans (Ex.new hp1)).trans (Ex.new hp2)) (.tup upd_same (.cons (.str _) (.cons (.tup (Ex.new hp2 _ _ upd_same) (.cons (.int _) .nil)) .nil)))
      | ok c j =>
        have := s1 c j hr
        rw [this]
        rw [hr] at q
        obtain ⟨a1, a2, a3, a4, a5⟩ := hz.facts hr
        refine ⟨_, rfl, _, rfl, iteT ⟨_, rfl, z, c, 20, rfl, Nat.le_trans hz.len (by decide), a5, .inr ⟨a1, by decide⟩, fun v' H2 e2 hv' => q v' H2 (e1.trans e2) hv'⟩⟩
    | no hno =>
      obtain ⟨⟨t, ht, hk⟩, _⟩ := hno
      refine ⟨_, rfl, v, .ty "str", _, _, _, rfl, .ty _, ht, hk, ⟨_, rfl, iteT ⟨1, rfl, by show 1 ≤ sizeLine; decide, fun p1 hp1 => ⟨by show 2 ≤ sizeLine; decide, fun p2 hp2 => ?_⟩⟩⟩⟩
      exact q _ _ ((Ex.new hp1).trans (Ex.new hp2)) (.tup upd_same (.cons (.str _) (.cons (.tup (Ex.new hp2 _ _ upd_same) (.cons (.int _) .nil)) .nil)))
theorem ok_law_try3 (T : Txt K mg AA) : PrC P w K mg base "_law_try" 60 62 (tTry3 AA) := by
  refine prC_mk T.f_law_try sc_law_try (fun g cdg A outer s H f c' q tl Q hr C hc ht => ?_)
  refine ⟨_, pss_one (ps_tryAs rfl rfl sc_law_try.nd (fun W pn xe tk po => pss_one (ps_ret (pe_tup (pa_cons pe_str (pa_cons (pe_ask2 (CXg := C8.CX0) (Eg := C8.E0) (i := 0) C tk (hr.mono (by decide)) rfl (.inl rfl)) pa_nil))))) (.cons (j := 1) ⟨rfl, by decide, .inl T.e_InvalidName.gC⟩ rfl rfl (fun e oe cls d pn hz hd => pss_one (ps_ret (pe_tup (pa_cons pe_str (pa_cons (pe_tup (pa_cons (pe_xf T.e_InvalidName.xf T.a_InvalidName_value hz hd (pv 1)) pa_nil)) pa_nil)))))
        (.cons (j := 1) ⟨rfl, by decide, .inl T.e_InvalidNumber.gC⟩ rfl rfl (fun e oe cls d pn hz hd => pss_one (ps_ret (pe_tup (pa_cons pe_str (pa_cons (pe_tup (pa_cons (pe_xf T.e_InvalidNumber.xf T.a_InvalidNumber_value hz hd (pv 1)) pa_nil)) pa_nil)))))
        (.cons (j := 1) ⟨rfl, by decide, .inl T.e_InvalidText.gC⟩ rfl rfl (fun e oe cls d pn hz hd => pss_one (ps_ret (pe_tup (pa_cons pe_str (pa_cons (pe_tup (pa_cons (pe_xf T.e_InvalidText.xf T.a_InvalidText_at hz hd (pv 1)) pa_nil)) pa_nil)))))
        (.cons (j := 1) ⟨rfl, by decide, .inl T.e_InvalidCircle.gC⟩ rfl rfl (fun e oe cls d pn hz hd => pss_one (ps_ret (pe_tup (pa_cons pe_str (pa_cons (pe_tup (pa_cons (pe_xf T.e_InvalidCircle.xf T.a_InvalidCircle_at hz hd (pv 1)) pa_nil)) pa_nil)))))
        (.cons (j := 1) ⟨rfl, by decide, .inl T.e_InvalidTie.gC⟩ rfl rfl (fun e oe cls d pn hz hd => pss_one (ps_ret (pe_tup (pa_cons pe_str (pa_cons (pe_tup (pa_cons (pe_xf T.e_InvalidTie.xf T.a_InvalidTie_at hz hd (pv 1)) pa_nil)) pa_nil)))))
        (.cons (j := 1) ⟨rfl, by decide, .inl T.e_InvalidParting.gC⟩ rfl rfl (fun e oe cls d pn hz hd => pss_one (ps_ret (pe_tup (pa_cons pe_str (pa_cons (pe_tup (pa_cons (pe_xf T.e_InvalidParting.xf T.a_InvalidParting_value hz hd (pv 1)) pa_nil)) pa_nil)))))
        (.cons (j := 1) ⟨rfl, by decide, .inl T.e_InvalidCase.gC⟩ rfl rfl (fun e oe cls d pn hz hd => pss_one (ps_ret (pe_tup (pa_cons pe_str (pa_cons (pe_tup (pa_cons (pe_xf T.e_InvalidCase.xf T.a_InvalidCase_value hz hd (pv 1)) pa_nil)) pa_nil)))))
        (.cons (j := 1) ⟨rfl, by decide, .inl T.e_TooMany.gC⟩ rfl rfl (fun e oe cls d pn hz hd => pss_one (ps_ret (pe_tup (pa_cons pe_str (pa_cons (pe_tup (pa_cons (pe_xf T.e_TooMany.xf T.a_TooMany_what hz hd (pv 1)) (pa_cons (pe_xf T.e_TooMany.xf T.a_TooMany_most hz hd (pv 1)) pa_nil))) pa_nil)))))
        HdsAs.rest))))))))), ?_⟩
  obtain ⟨E1, Q1, ht, hQ, hE⟩ := ht
  refine ⟨rfl, hc, _, _, ht, fun v H1 h => ⟨by show 2 ≤ sizeLine; decide, fun p hp => hQ v H1 h p _ (Ex.new hp) upd_same⟩, fun cls d H1 h => ?_⟩
  rcases hE _ _ _ h with ⟨rfl, dd, v, rfl, hx, h⟩ | ⟨rfl, dd, a, b, rfl, hx, h⟩
  · refine ⟨_, T.x_InvalidText_InvalidName, fun z => (nomatch z), fun _ => ⟨_, T.x_InvalidText_InvalidNumber, fun z => (nomatch z), fun _ => ⟨_, T.x_InvalidText_InvalidText, fun _ e he => ?_, fun z => (nomatch z)⟩⟩⟩
    exact ⟨_, rfl, rfl, rfl, dd, _, v, rfl, hx, rfl, by show 1 ≤ sizeLine; decide, fun p1 hp1 => ⟨by show 2 ≤ sizeLine; decide, fun p2 hp2 => h p1 p2 _ ((Ex.new hp1).trans (Ex.new hp2)) (Ex.new hp2 _ _ upd_same) upd_same⟩⟩
  · refine ⟨_, T.x_TooMany_InvalidName, fun z => (nomatch z), fun _ => ⟨_, T.x_TooMany_InvalidNumber, fun z => (nomatch z), fun _ => ⟨_, T.x_TooMany_InvalidText, fun z => (nomatch z), fun _ => ⟨_, T.x_TooMany_InvalidCircle, fun z => (nomatch z), fun _ => ⟨_, T.x_TooMany_InvalidTie, fun z => (nomatch z), fun _ => ⟨_, T.x_TooMany_InvalidParting, fun z => (nomatch z), fun _ => ⟨_, T.x_TooMany_InvalidCase, fun z => (nomatch z), fun _ => ⟨_, T.x_TooMany_TooMany, fun _ e he => ?_, fun z => (nomatch z)⟩⟩⟩⟩⟩⟩⟩⟩
    exact ⟨_, rfl, rfl, rfl, dd, _, a, rfl, hx, rfl, _, rfl, rfl, rfl, dd, _, b, rfl, hx, rfl, by show 2 ≤ sizeLine; decide, fun p1 hp1 => ⟨by show 2 ≤ sizeLine; decide, fun p2 hp2 => h p1 p2 _ ((Ex.new hp1).trans (Ex.new hp2)) (Ex.new hp2 _ _ upd_same) upd_same⟩⟩
theorem ok_law_as5 (T : Txt K mg AA) : Pr P w K mg base "_law_as" s_law_as p_law_as 28 (spAs5 AA) := by
  refine pr_mk T.f_law_as sc_law_as (fun vs H Q E h => ?_) (fun f cdv A outer s H vs Q E hr h => ?_)
  · obtain ⟨f, d, r, rfl, _⟩ := h
    rfl
  · obtain ⟨f, d, r, rfl, hf, hd, hn, q⟩ := h
    refine ⟨_, (pss_cons (ps_if (PW.pt (pw_or (pt_cmpR op_ne (pe_ix (ix_tupK (K := K) rfl) (pv 1) pe_int (fun _ _ => rfl)) pe_str (nomark _)) (pw_or1 (pt_cmpR op_ne (pe_ix (ix_tupK (K := K) rfl) (pv 0) pe_int (fun _ _ => rfl)) pe_str (nomark _)))))
      (pss_one (ps_ret (pcall (ok_law_sm T 12) hr (pa_cons (pv 0) (pa_cons (pv 1) pa_nil)))))
      pss_nil)
      (pss_one (ps_ret (pe_and (pe_callB (call_isiK (K := K) rfl) (by rfl) T.n_isinstance PyProof.Rows.boot_isinstance (pa_cons (pe_ix (ix_tupK (K := K) rfl) (pv 0) pe_int (fun _ _ => rfl)) (pa_cons (pe_glob (v := .ref AA.Circle) (by rfl) T.m_Circle rfl) pa_nil))) (pe_one (pcall (ok_law_sm T 12) hr (pa_cons (pcall (ok_law_told_of T) hr (pa_cons (pe_ix (ix_tupK (K := K) rfl) (pv 0) pe_int (fun _ _ => rfl)) pa_nil)) (pa_cons (pcall (ok_law_due_of T) hr (pa_cons (pe_ix (ix_tupK (K := K) rfl) (pv 1) pe_int (fun _ _ => rfl)) pa_nil)) pa_nil)))))))), ?_⟩
    cases r with
    | bad e =>
      have hf : Rep H f (r5Data (.bad e)) := hf
      obtain ⟨p, p2, rfl, hp, hp2⟩ := hd.bad_at
      refine ⟨_, rfl, p, _, 0, _, rfl, rfl, st_of hp, rfl, rfl, _, rfl, ?_⟩
      refine iteT (iteT ⟨_, rfl, _, rfl, f, _, rfl, Rep.sm 12 hf hd ?_ ?_, fun H' e => q H' e⟩)
      · simp only [r5Data, PyData.depth, PyData.depthAll]
        decide
      · simp only [r5Data, wid, widAll, List.length_cons, List.length_nil]
        decide
    | got r =>
      cases r with
      | no z =>
        have hf : Rep H f (rsData (.no z)) := hf
        have hd : Rep H d (rsData (.no z)) := hd
        obtain ⟨p, p2, rfl, hp, hp2⟩ := hd.rs_no
        refine ⟨_, rfl, p, _, 0, _, rfl, rfl, st_of hp, rfl, rfl, _, rfl, ?_⟩
        refine iteT (iteT ⟨_, rfl, _, rfl, f, _, rfl, Rep.sm 12 hf hd ?_ ?_, fun H' e => q H' e⟩)
        · simp only [rsData, PyData.depth, PyData.depthAll]
          decide
        · simp only [rsData, wid, widAll, List.length_cons, List.length_nil]
          decide
      | yes c =>
        have hd : Rep H d (rsData (.yes c)) := hd
        obtain ⟨p, x, rfl, hp, hx⟩ := hf
        obtain ⟨p2, y, rfl, hp2, hy⟩ := hd.rs_yes
        have hnc := hn c rfl
        obtain ⟨px, dx, lx, vx, rfl, hpx, _, _⟩ := hx.at_
        refine ⟨_, rfl, p2, _, 0, _, rfl, rfl, st_of hp2, rfl, rfl, _, rfl, iteF ⟨_, rfl, p, _, 0, _, rfl, rfl, st_of hp, rfl, rfl, _, rfl, iteF ?_⟩⟩
        refine ⟨_, rfl, p, _, 1, _, rfl, rfl, st_of hp, rfl, _, _, _, _, _, rfl, .own _, .base (.ins hpx T.c_Circle T.y_Circle.ty1 T.y_Circle.ty2 T.y_Circle.ty3 T.y_Circle.ty4), kit_self, ?_⟩
        refine ⟨_, rfl, iteT ⟨_, rfl, p, _, 1, _, rfl, rfl, st_of hp, rfl, _, c, rfl, hx, hnc.fine, hnc.2.2, fun v1 ys1 H1 hy1 e1 r1 => ⟨_, rfl, p2, _, 1, _, rfl, rfl, st_of (e1 _ _ hp2), rfl, y, c, rfl, Rep.mono e1 hy, hnc.fine, hnc.2.2, fun v2 ys2 H2 hy2 e2 r2 => ⟨v1, v2, rfl, told_sm hnc.fine hy1 hy2 (Rep.mono e2 r1) r2, fun H3 e3 => q H3 ((e1.trans e2).trans e3)⟩⟩⟩⟩
end
theorem NoTx.mono {K : PySem.W.Frag} {H H' : Hp} {v : V} (e : Ex H H') (h : NoTx K H v) : NoTx K H' v := by
  obtain ⟨⟨t, h1, h2⟩, h3⟩ := h
  refine ⟨⟨t, TyX.mono e h1, h2⟩, fun a ha => ?_⟩
  rcases h3 a ha with ⟨xs, h⟩ | ⟨xs, h⟩ | ⟨C, dx, fs, h⟩
  · exact .inl ⟨xs, e _ _ h⟩
  · exact .inr (.inl ⟨xs, e _ _ h⟩)
  · exact .inr (.inr ⟨C, dx, fs, e _ _ h⟩)
theorem Thing.mono {K : PySem.W.Frag} {H H' : Hp} {v : V} {r : R5} (e : Ex H H') (h : Thing K H v r) : Thing K H' v r := by
  cases h with
  | tx h1 h2 => exact .tx h1 h2
  | no h =>
    obtain ⟨⟨t, h1, h2⟩, h3⟩ := h
    refine .no ⟨⟨t, TyX.mono e h1, h2⟩, fun a ha => ?_⟩
    rcases h3 a ha with ⟨xs, h⟩ | ⟨xs, h⟩ | ⟨C, dx, fs, h⟩
    · exact .inl ⟨xs, e _ _ h⟩
    · exact .inr (.inl ⟨xs, e _ _ h⟩)
    · exact .inr (.inr ⟨C, dx, fs, e _ _ h⟩)
theorem Thing.exN {K : PySem.W.Frag} {H H' : Hp} {v : V} {r : R5} (e : ExtN H H') (h : Thing K H v r) : Thing K H' v r := by
  cases h with
  | tx h1 h2 => exact .tx h1 h2
  | no h =>
    obtain ⟨⟨t, h1, h2⟩, h3⟩ := h
    refine .no ⟨⟨t, TyX.exN e h1, h2⟩, fun a ha => ?_⟩
    rcases h3 a ha with ⟨xs, h⟩ | ⟨xs, h⟩ | ⟨C, dx, fs, h⟩
    · exact .inl ⟨xs, e _ _ h (fun _ => nofun)⟩
    · exact .inr (.inl ⟨xs, e _ _ h (fun _ => nofun)⟩)
    · exact .inr (.inr ⟨C, dx, fs, e _ _ h (fun _ => nofun)⟩)
theorem NoTx.cut {K : PySem.W.Frag} {H : Hp} {v : V} (h : NoTx K H v) : NoTx K (cutH H) v := by
  obtain ⟨⟨t, h1, h2⟩, h3⟩ := h
  refine ⟨⟨t, TyX.cut h1 h3, h2⟩, fun a ha => ?_⟩
  rcases h3 a ha with ⟨xs, h⟩ | ⟨xs, h⟩ | ⟨C, dx, fs, h⟩
  · exact .inl ⟨xs, cut_lst h⟩
  · exact .inr (.inl ⟨xs, cut_tup h⟩)
  · exact .inr (.inr ⟨C, dx, fs, cut_ins h⟩)
theorem Thing.cut {K : PySem.W.Frag} {H : Hp} {v : V} {r : R5} (h : Thing K H v r) : Thing K (cutH H) v r := by
  cases h with
  | tx h1 h2 => exact .tx h1 h2
  | no h => exact .no h.cut
theorem no_str {K : PySem.W.Frag} {H : Hp} {z : Str} {t : Value} (h : TyX K H (.str z) t) (hk : PySem.W.kitOne K t (.type "str") = some false) : False := by
  cases h with
  | base h =>
    cases h with
    | str b =>
      have e : PySem.W.kitOne K (.type "str") (.type "str") = some true := kit_ty (r := true) (by decide +kernel)
      rw [e] at hk
      cases hk
inductive Snd5 (K : PySem.W.Frag) (H : Hp) (v : V) (r : R5) : Bool → Prop
  | tx {z : Str} : v = .str z → Tx z → r = dueZ z → Snd5 K H v r (soundZ z)
  | no : NoTx K H v → r = .bad (-1) → Snd5 K H v r false
theorem Snd5.mono {K : PySem.W.Frag} {H H' : Hp} {v : V} {r : R5} {s : Bool} (e : Ex H H') (h : Snd5 K H v r s) : Snd5 K H' v r s := by
  cases h with
  | tx h1 h2 h3 => exact .tx h1 h2 h3
  | no h1 h2 => exact .no (h1.mono e) h2
theorem Thing.snd {K : PySem.W.Frag} {H : Hp} {v : V} {r : R5} (h : Thing K H v r) : ∃ s, Snd5 K H v r s := by
  cases h with
  | tx h1 h2 => exact ⟨_, .tx h1 h2 rfl⟩
  | no h => exact ⟨_, .no h rfl⟩
theorem due_nice {K : PySem.W.Frag} {H : Hp} {v : V} {r : R5} (h : Thing K H v r) : ∀ c, r = .got (.yes c) → c.nice := fun t e => by
  cases h with
  | no h => cases e
  | @tx z h1 h2 =>
    unfold dueZ at e
    cases hr : readR (tl z) with
    | bad p =>
      rw [hr] at e
      cases e
    | ok c j =>
      rw [hr] at e
      have e : R5.got (putC .eye c) = .got (.yes t) := e
      have e : putC .eye c = .yes t := by injection e
      exact putC_nice (fun n hn => eye_nice hn) c (h2.facts hr).2.1 t e
section
variable {K : PySem.W.Frag} {AA : Adr} {b : Addr} {G H : Hp} {Q : VK} {E : XK}
theorem read5_call {v : V} {r : R5} (hA : At b G H) (h : Thing K G v r) (q : ∀ v' G' H', At b G' H' → Ex G G' → Rep G' v' (r5Data r) → Q v' H') : spBag0 1 (spRead5 K) [v] H Q (fun _ _ _ => False) := by
  have cutR : ∀ {G0 : Hp} {v' : V}, Rep G0 v' (r5Data r) → Rep (cutH G0) v' (r5Data r) := fun {G0 v'} h => Rep.mono2 (fun _ _ => cut_lst) (fun _ _ => cut_tup) h
  refine ⟨rfl, b, G, hA, fun G0 g0 hA0 c0 => ⟨v, r, rfl, (h.mono g0).cut, fun v' G' e' hv' u o1 => ?_⟩⟩
  obtain ⟨G2, g2, hA2, x2, _⟩ := bag_use hA0 c0 e' u o1
  exact q v' G2 _ hA2 (g0.trans g2) (Rep.mono x2 (cutR hv'))
theorem ist5_call {v : V} {r : R5} {s : Bool} (hA : At b G H) (h : Snd5 K G v r s) (q : ∀ G' H', At b G' H' → Ex G G' → Q (.bl s) H') : spBag0 1 (spIsAny K) [v] H Q (fun _ _ _ => False) := by
  refine ⟨rfl, b, G, hA, fun G0 g0 hA0 c0 => ?_⟩
  have fin : ∀ G', Ex (cutH G0) G' → (∀ a o, H a = some o → cutH G0 a = none → G' a = none) → Own1 G' → Q (.bl s) (mrg (cutH G0) G' H) := fun G' e' u o1 => by
    obtain ⟨G2, g2, hA2, x2, _⟩ := bag_use hA0 c0 e' u o1
    exact q G2 _ hA2 (g0.trans g2)
  cases h with
  | tx h1 h2 _ => exact ⟨v, rfl, c0, .inl ⟨_, h1, h2, fun G' e' u o1 => fin G' e' u o1⟩⟩
  | no h1 h2 =>
    have hn : NoTx K (cutH G0) v := (NoTx.mono g0 h1).cut
    exact ⟨v, rfl, c0, .inr ⟨hn, fun G' e' u o1 => fin G' e' u o1⟩⟩
theorem read5_callX {v : V} {r : R5} (hA : At b G H) (h : Thing K G v r)
    (q : ∀ c' v' G' H', r = .got (.yes c') → At b G' H' → Ex G G' → CiAt AA.Circle G' v' c' → Q v' H')
    (qx : ∀ y dd G' H', r = .got (.no y) → At b G' H' → Ex G G' → G' dd = some (.xd [("most", .int y.2), ("what", .str y.1)]) → E (.ref AA.TooMany) (some dd) H')
    (qb : ∀ p dd G' H', r = .bad p → At b G' H' → Ex G G' → G' dd = some (.xd [("at", .int p)]) → E (.ref AA.InvalidText) (some dd) H') : spBagX 1 (spRead K AA) [v] H Q E := by
  refine ⟨rfl, b, G, hA, fun G0 g0 hA0 c0 => ?_⟩
  have bad : ∀ p, r = .bad p → BadT AA (cutH G0) (fun cls d G' => (∀ a o, H a = some o → cutH G0 a = none → G' a = none) → Own1 G' → E cls d (mrg (cutH G0) G' H)) p := fun p hp dd G' hdd e' hx u o1 => by
    obtain ⟨G2, g2, hA2, x2, _⟩ := bag_use hA0 c0 e' u o1
    exact qb p dd G2 _ hp hA2 (g0.trans g2) (x2 _ _ (cut_xd hx))
  cases h with
  | @tx z h1 h2 =>
    refine ⟨v, rfl, c0, .inl ⟨z, h1, h2.okT, fun c j hr => ?_, fun p hp => bad p ?_⟩⟩
    · obtain ⟨a1, a2, a3, a4, a5⟩ := h2.facts hr
      have hd : dueZ z = .got (putC .eye c) := by
        unfold dueZ
        rw [hr]
      refine ⟨a2, a3, a4, fun c' hc' v' G' e' hv' u o1 => ?_, fun y hy dd G' hdd e' hx u o1 => ?_⟩
      · obtain ⟨G2, g2, hA2, x2, _⟩ := bag_use hA0 c0 e' u o1
        exact q c' v' G2 _ (by rw [hd, hc']) hA2 (g0.trans g2) (hv'.cut.mono x2)
      · obtain ⟨G2, g2, hA2, x2, _⟩ := bag_use hA0 c0 e' u o1
        exact qx y dd G2 _ (by rw [hd, hy]) hA2 (g0.trans g2) (x2 _ _ (cut_xd hx))
    · unfold dueZ
      rw [hp]
  | no hno =>
    have hn : NoTx K (cutH G0) v := (NoTx.mono g0 hno).cut
    exact ⟨v, rfl, c0, .inr ⟨hn.1, bad (-1) rfl⟩⟩
theorem try_gen5 {tl : XK → Hp → VK → Prop} {r : R5} {R : VK} (hT : Tabs (TT AA) G)
    (body : ∀ E Q, (∀ c' v' G2 H1, r = .got (.yes c') → At b G2 H1 → Ex G G2 → CiAt AA.Circle G2 v' c' → Q v' H1) → (∀ z dd G2 H1, r = .got (.no z) → At b G2 H1 → Ex G G2 → G2 dd = some (.xd [("most", .int z.2), ("what", .str z.1)]) → E (.ref AA.TooMany) (some dd) H1) → (∀ p dd G2 H1, r = .bad p → At b G2 H1 → Ex G G2 → G2 dd = some (.xd [("at", .int p)]) → E (.ref AA.InvalidText) (some dd) H1) → tl E H Q)
    (hR : ∀ f G' H', At b G' H' → ExtN G G' → Tabs (TT AA) G' → FoundAt5 AA.Circle G' f r → R f H') : tTry3 AA tl H R := by
  refine ⟨fun cls d H1 => (∃ G2 z dd, At b G2 H1 ∧ Ex G G2 ∧ r = .got (.no z) ∧ cls = .ref AA.TooMany ∧ d = some dd ∧ G2 dd = some (.xd [("most", .int z.2), ("what", .str z.1)])) ∨ ∃ G2 p dd, At b G2 H1 ∧ Ex G G2 ∧ r = .bad p ∧ cls = .ref AA.InvalidText ∧ d = some dd ∧ G2 dd = some (.xd [("at", .int p)]), fun v' H1 => ∃ G2 c', At b G2 H1 ∧ Ex G G2 ∧ r = .got (.yes c') ∧ CiAt AA.Circle G2 v' c',
    body _ _ (fun c' v' G2 H1 h1 h2 h3 h4 => ⟨G2, c', h2, h3, h1, h4⟩) (fun z dd G2 H1 h1 h2 h3 h4 => .inl ⟨G2, z, dd, h2, h3, h1, rfl, rfl, h4⟩) (fun p dd G2 H1 h1 h2 h3 h4 => .inr ⟨G2, p, dd, h2, h3, h1, rfl, rfl, h4⟩), fun v' H1 h p H' e hp => ?_, fun cls d H1 h => ?_⟩
  · obtain ⟨G2, c', hA2, g2, hc', hv'⟩ := h
    obtain ⟨G3, hA3, g3, h3⟩ := hA2.tup e
    refine hR _ G3 H' hA3 (ExtN.of (g2.trans g3)) ((hT.ext g2).ext g3) ?_
    rw [hc']
    exact ⟨p, v', rfl, h3 _ _ hp, hv'.mono g3⟩
  · rcases h with ⟨G2, z, dd, hA2, g2, hz, rfl, rfl, hx⟩ | ⟨G2, z, dd, hA2, g2, hz, rfl, rfl, hx⟩
    · refine .inr ⟨rfl, dd, _, _, rfl, hA2.ex _ _ hx, fun p1 p2 H' e h1 h2 => ?_⟩
      obtain ⟨G3, hA3, g3, h3⟩ := hA2.tup e
      refine hR _ G3 H' hA3 (ExtN.of (g2.trans g3)) ((hT.ext g2).ext g3) ?_
      rw [hz]
      exact .tup (h3 _ _ h2) (.cons (.str _) (.cons (.tup (h3 _ _ h1) (.cons (.str _) (.cons (.int _) .nil))) .nil))
    · refine .inl ⟨rfl, dd, _, rfl, hA2.ex _ _ hx, fun p1 p2 H' e h1 h2 => ?_⟩
      obtain ⟨G3, hA3, g3, h3⟩ := hA2.tup e
      refine hR _ G3 H' hA3 (ExtN.of (g2.trans g3)) ((hT.ext g2).ext g3) ?_
      rw [hz]
      exact .tup (h3 _ _ h2) (.cons (.str _) (.cons (.tup (h3 _ _ h1) (.cons (.int _) .nil)) .nil))
end
def spAny5 (K : PySem.W.Frag) (AA : Adr) : Sp := fun vs H Q _ => ∃ (b : Addr) (G : Hp) (v : V) (r : R5), vs = [v] ∧ At b G H ∧ Tabs (TT AA) G ∧ Thing K G v r ∧ ∀ G' H', At b G' H' → ExtN G G' → Tabs (TT AA) G' → Q (.bl true) H'
section
variable {P : Program} {w : World} {K : PySem.W.Frag} {mg : Str → Option Value} {base : Heap} {AA : Adr}
theorem ok_law_any_so (T : Txt K mg AA) (hw : AA.pp = w.params) (TB : TabB base mg AA.cdA AA.tbA) : Pr P w K mg base "_law_any_so" s_law_any_so p_law_any_so 80 (spAny5 K AA) := by
  refine pr_mkC T.f_law_any_so sc_law_any_so (fun vs H Q E h => ?_) (fun f A outer s H vs Q E hr h => ?_)
  · obtain ⟨b, G, v, r, rfl, _⟩ := h
    rfl
  · obtain ⟨b, G, v, r, rfl, hA, hT, hth, q⟩ := h
    refine ⟨_, (pss_cons (ps_set (i := 1) sc_law_any_so.nd rfl (.inl rfl) (pcall (Pr.bag (ok_law_read T)) hr (pa_cons (pv 0) pa_nil)))
      (pss_cons (ps_if (pt_not (pt_val (pcall (ok_law_as5 T) hr (pa_cons (pe_lamh (T := TT AA) (kk := 60) (ok_law_try3 T) rfl TB rfl (TT_memA AA) (TT_unA T) hr (by decide) (lamS_by (by show lamSB (defScope s_law_any_so) _ = true; decide +kernel)) rfl (fun _ _ _ _ _ => rfl) (fun A outer s H E f c' hr => (pcallX (PrX.bagX (ok_read_circle T hw)) hr (takes_of (E := E) rfl rfl rfl rfl) (pa_cons (pv 0) pa_nil)))) (pa_cons (pv 1) pa_nil)))))
      (pss_one (ps_ret pe_bl))
      pss_nil)
      (pss_cons (ps_set (i := 2) sc_law_any_so.nd rfl (.inl rfl) (pe_and (pe_cmpR op_eq (pe_ix (ix_tupK (K := K) rfl) (pv 1) pe_int (fun _ _ => rfl)) pe_str (nomark _)) (pe_one (pe_cmpR op_eq (pcall (ok_law_words T 25) hr (pa_cons (pe_ix (ix_tupK (K := K) rfl) (pv 1) pe_int (fun _ _ => rfl)) pa_nil)) (pv 0) (nomark _)))))
      (pss_one (ps_ret (pcall (ok_law_sm T 12) hr (pa_cons (pe_lst (pa_cons (pcall (Pr.bag (ok_is_any T hw)) hr (pa_cons (pv 0) pa_nil)) (pa_cons (pcall (Pr.bag (ok_is_any T hw)) hr (pa_cons (pv 0) pa_nil)) pa_nil))) (pa_cons (pe_lst (pa_cons (pv 2) (pa_cons (pv 2) pa_nil))) pa_nil)))))))), ?_⟩
    refine ⟨_, rfl, read5_call hA hth fun vd G1 H1 hA1 x1 hvd => ?_⟩
    have hT1 := hT.ext x1
    have hth1 := hth.mono x1
    refine ⟨hT1.ext hA1.ex, fun Ha na ta => ?_⟩
    obtain ⟨Ga, hAa, nGa, tGa, _⟩ := hA1.extN na ta
    refine try_gen5 (AA := AA) (b := b) (G := Ga) (r := r) tGa (fun E Q hq he hb => ⟨_, rfl, read5_callX (AA := AA) hAa (hth1.exN nGa) hq he hb⟩) (fun f1 Gb Hb hAb nb tb hf1 => ?_)
    have n1b := nGa.trans nb
    have hthb := hth1.exN n1b
    have hvdb := Rep.exN n1b hvd
    refine ⟨_, rfl, f1, vd, r, rfl, hf1.mono hAb.ex, Rep.mono hAb.ex hvdb, due_nice hth, fun H2 e2 => ⟨_, rfl, iteF ?_⟩⟩
    have hA2 := hAb.mono e2
    have n0b := (ExtN.of x1).trans n1b
    obtain ⟨sd, hsd⟩ := hthb.snd
    -- sound
    have fin : ∀ H3, At b Gb H3 → ∀ (y : V), y = .bl sd → tRet (tCall (spSm AA.Circle 12) [] (fun x x_1 x_2 => False) (tCons (tLst (tCons (tCall (spBag0 p_is_circle_text.length (spIsAny K)) [] (fun x x_1 x_2 => False) (tCons (tVar 0) tNil)) (tCons (tCall (spBag0 p_is_circle_text.length (spIsAny K)) [] (fun x x_1 x_2 => False) (tCons (tVar 0) tNil)) tNil))) (tCons (tLst (tCons (tVar 2) (tCons (tVar 2) tNil))) tNil)))
        { nx := fun x H' => Q V.non H', rt := Q } [some v, some vd, some y] H3 := fun H3 hA3 y hy => by
      subst hy
      refine ⟨_, rfl, ist5_call hA3 hsd fun G4 H4 hA4 x4 => ⟨_, rfl, ist5_call hA4 (hsd.mono x4) fun G5 H5 hA5 x5 => ⟨by show 2 ≤ sizeLine; decide, fun l1 hl1 => ⟨_, rfl, _, rfl, by show 2 ≤ sizeLine; decide, fun l2 hl2 => ?_⟩⟩⟩⟩
      have e1 := Ex.new (o := HO.lst [V.bl sd, V.bl sd]) hl1
      have e2 := Ex.new (o := HO.lst [V.bl sd, V.bl sd]) hl2
      have hx : Rep (upd (upd H5 l1 (.lst [V.bl sd, V.bl sd])) l2 (.lst [V.bl sd, V.bl sd])) (.ref l1) (.list [.bool sd, .bool sd]) := .lst (e2 _ _ upd_same) (.cons (.bl _) (.cons (.bl _) .nil))
      have hy : Rep (upd (upd H5 l1 (.lst [V.bl sd, V.bl sd])) l2 (.lst [V.bl sd, V.bl sd])) (.ref l2) (.list [.bool sd, .bool sd]) := .lst upd_same (.cons (.bl _) (.cons (.bl _) .nil))
      refine ⟨.ref l1, .ref l2, rfl, Rep.sm 12 hx hy ?_ ?_, fun H6 e6 => ?_⟩
      · simp only [PyData.depth, PyData.depthAll]
        decide
      · simp only [wid, widAll, List.length_cons, List.length_nil]
        decide
      have hA6 := ((hA5.mono e1).mono e2).mono e6
      exact q G5 H6 hA6 (n0b.trans (ExtN.of (x4.trans x5))) ((tb.ext x4).ext x5)
    cases hth with
    | no hno =>
      have hsf : sd = false := by
        cases hsd with
        | no _ _ => rfl
        | @tx z h1 h2 h3 =>
          exfalso
          subst h1
          obtain ⟨⟨t, ht, hk⟩, _⟩ := hno
          exact no_str ht hk
      obtain ⟨p, p2, rfl, hp, hp2⟩ := hvdb.bad_at
      refine ⟨_, rfl, p, _, 0, _, rfl, rfl, st_of (hA2.ex _ _ hp), rfl, rfl, _, rfl, iteF ?_⟩
      exact fin H2 hA2 _ (by rw [hsf])
    | @tx z hv hz =>
      subst hv
      have hss : sd = soundZ z := by
        cases hsd with
        | no h1 h2 =>
          exfalso
          obtain ⟨⟨t, ht, hk⟩, _⟩ := h1
          exact no_str ht hk
        | @tx z2 h1 h2 h3 =>
          cases h1
          rfl
      have hsz : ∀ r, dueZ z = r → soundZ z = (match r with | .got (.yes t) => decide (t.str = z) | _ => false) := fun r e => by
        unfold soundZ
        rw [e]
        try rfl
      cases hr : dueZ z with
      | bad e =>
        rw [hr] at hvdb
        obtain ⟨p, p2, rfl, hp, hp2⟩ := hvdb.bad_at
        refine ⟨_, rfl, p, _, 0, _, rfl, rfl, st_of (hA2.ex _ _ hp), rfl, rfl, _, rfl, iteF ?_⟩
        exact fin H2 hA2 _ (by rw [hss, hsz _ hr])
      | got r =>
        rw [hr] at hvdb
        cases r with
        | no y =>
          have hvdb : Rep Gb vd (rsData (.no y)) := hvdb
          obtain ⟨p, p2, rfl, hp, hp2⟩ := hvdb.rs_no
          refine ⟨_, rfl, p, _, 0, _, rfl, rfl, st_of (hA2.ex _ _ hp), rfl, rfl, _, rfl, iteF ?_⟩
          exact fin H2 hA2 _ (by rw [hss, hsz _ hr])
        | yes t =>
          have hvdb : Rep Gb vd (rsData (.yes t)) := hvdb
          obtain ⟨p, x, rfl, hp, hx⟩ := hvdb.rs_yes
          have htn : t.nice := by
            have := due_nice (K := K) (H := Gb) (v := .str z) (.tx rfl hz) t hr
            exact this
          have hd20 := htn.2.2
          refine ⟨_, rfl, p, _, 0, _, rfl, rfl, st_of (hA2.ex _ _ hp), rfl, rfl, _, rfl, iteT ?_⟩
          refine ⟨_, rfl, p, _, 1, _, rfl, rfl, st_of (hA2.ex _ _ hp), rfl, x, t, rfl, Rep.mono hA2.ex hx, by omega, htn.fine, fun H3 e3 => ⟨_, rfl, rfl, ?_⟩⟩
          refine fin H3 (hA2.mono e3) _ ?_
          rw [hss, hsz _ hr]
          show V.bl (decide (V.str t.str = V.str z)) = V.bl (decide (t.str = z))
          congr 1
          by_cases h : t.str = z
          · rw [h, decide_eq_true rfl, decide_eq_true rfl]
          · rw [decide_eq_false h, decide_eq_false fun g => h (V.str.inj g)]
end
end Eyes

set_option Elab.async false
set_option linter.all false
set_option maxRecDepth 100000
set_option maxHeartbeats 4000000
/-! a text * a number. -/
namespace Eyes
open PySem PySem.Spec PyProof.Rows L2
theorem foldl_catT (a : Array Nat) : ∀ (n : Nat) (acc : Array Nat), (List.foldl (fun a b => a ++ b) acc (List.replicate n a)).toList = acc.toList ++ (List.replicate n a.toList).flatten
  | 0, acc => by simp
  | n + 1, acc => by
    rw [List.replicate_succ, List.foldl_cons, foldl_catT a n]
    simp [List.replicate_succ]
theorem flat_len_rep (l : List Nat) (n : Nat) : ((List.replicate n l).flatten).length = n * l.length := by
  induction n with
  | zero => simp
  | succ n ih =>
    rw [List.replicate_succ, List.flatten_cons, List.length_append, ih, Nat.succ_mul]
    omega
def rMulT : R2 := fun x y H Q => ∃ (z : Str) (n : Nat), x = .str z ∧ y = .int (n : Int) ∧ n ≤ 2000 ∧ z.length ≤ 100 ∧ Q (.str ⟨((List.replicate n z.cps.toList).flatten).toArray⟩) H
section
variable {X : Cx}
theorem op_mulT : OpR X (binaryOp .Mult) rMulT := by
  intro pins s σ H x y v u Q I rx ry h
  obtain ⟨z, n, rfl, rfl, hn, hzl, q⟩ := h
  obtain ⟨t1, rfl⟩ := rx
  obtain ⟨t2, rfl⟩ := ry
  have hsz : 200000 ≤ sizeLine := by decide
  have hmul : z.length * n ≤ 100 * 2000 := Nat.mul_le_mul hzl hn
  refine P.mul_str ?_ ?_ ?_ ?_
  · have a : ¬ ((n : Int) < -2 ^ 63) := by omega
    have b : ¬ ((n : Int) ≥ 2 ^ 63) := by omega
    rw [decide_eq_false a, decide_eq_false b]
    rfl
  · intro h1 _ h2
    have h4 : (100 : Int) ≤ (2 ^ 63 - 1 : Int) / (n : Int) := by
      rw [Int.le_ediv_iff_mul_le (by omega)]
      omega
    have h3 : (2 ^ 63 - 1 : Int) / (n : Int) < (z.length : Int) := h2
    omega
  · intro h1 _
    show decide (_ > sizeLine) = false
    refine decide_eq_false ?_
    rw [Int.toNat_natCast]
    omega
  · have fin : ∀ w : Str, w = ⟨((List.replicate n z.cps.toList).flatten).toArray⟩ → ∀ s', L2.Inv X pins σ H s' → ∀ t, EP X pins σ Q (.str w t) s' := fun w e s' I' t => by
      subst e
      exact ⟨.str _, H, I', ⟨t, rfl⟩, q⟩
    have ext : ∀ {a b : Str}, a.cps.toList = b.cps.toList → a = b := fun {a b} h => by
      cases a with
      | mk a =>
        cases b with
        | mk b =>
          congr 1
          exact Array.toList_inj.mp h
    by_cases h1 : (n : Int) < 1
    · have hn0 : n = 0 := by omega
      rw [if_pos h1]
      subst hn0
      exact ⟨Nat.zero_le _, fin Str.empty rfl _ (I.tok _) _⟩
    · rw [if_neg h1]
      by_cases h2 : ((n : Int) == 1 || z.length == 0) = true
      · rw [if_pos h2]
        refine fin z (ext ?_) _ I _
        show z.cps.toList = (List.replicate n z.cps.toList).flatten
        rcases Bool.or_eq_true_iff.mp h2 with h | h
        · have hn1 : n = 1 := by
            simp at h
            omega
          subst hn1
          simp
        · have hz0 : z.cps.toList = [] := by
            have : z.length = 0 := by simpa using h
            have : z.cps.toList.length = 0 := by
              rw [Array.length_toList]
              exact this
            exact List.length_eq_zero_iff.mp this
          rw [hz0]
          simp
      · rw [if_neg h2]
        have e : (⟨List.foldl (fun a b => a ++ b) #[] (List.replicate ((n : Int)).toNat z.cps)⟩ : Str) = ⟨((List.replicate n z.cps.toList).flatten).toArray⟩ := by
          refine ext ?_
          rw [Int.toNat_natCast]
          show (List.foldl (fun a b => a ++ b) #[] (List.replicate n z.cps)).toList = (List.replicate n z.cps.toList).flatten
          rw [foldl_catT]
          rfl
        refine ⟨?_, fin _ e _ (I.tok _) _⟩
        rw [e]
        show ((List.replicate n z.cps.toList).flatten).toArray.size ≤ _
        have h3 := flat_len_rep z.cps.toList n
        have h4 : z.cps.toList.length = z.length := Array.length_toList
        rw [List.size_toArray, h3, h4, Nat.mul_comm]
        omega
end
end Eyes

set_option Elab.async false
set_option linter.all false
set_option maxRecDepth 100000
set_option maxHeartbeats 4000000
namespace Eyes
open PySem PySem.Spec PyProof.Rows L2 Evl TL LamX
structure Lw (s : Str) (n : Nat) : Prop where
  len : s.length ≤ n
  low : ∀ c ∈ tl s, c < 128
theorem Lw.app {a b : Str} {n m : Nat} (h : Lw a n) (g : Lw b m) : Lw (a ++ b) (n + m) := by
  have h1 := h.len
  have h2 := g.len
  refine ⟨?_, fun c hc => ?_⟩
  · rw [len_tl, tl_append, List.length_append, ← len_tl, ← len_tl]
    omega
  · rw [tl_append] at hc
    rcases List.mem_append.mp hc with hc | hc
    · exact h.low c hc
    · exact g.low c hc
theorem Lw.le {a : Str} {n m : Nat} (h : Lw a n) (g : n ≤ m) : Lw a m := ⟨Nat.le_trans h.len g, h.low⟩
theorem Lw.self {a : Str} {n : Nat} (h : Lw a n) : Lw a a.length := ⟨Nat.le_refl _, h.low⟩
theorem Lw.to {z : Str} {m : Nat} (h : Lw z m) (n : Nat) : Lw (cutS z none (some (n : Int))) n := by
  rw [cutS_to]
  refine ⟨?_, fun c hc => h.low c (List.mem_of_mem_take hc)⟩
  show ((tl z).take n).length ≤ n
  rw [List.length_take]
  omega
theorem Lw.from {z : Str} {m : Nat} (h : Lw z m) (n : Nat) : Lw (cutS z (some (n : Int)) none) (z.length - n) := by
  rw [cutS_from]
  refine ⟨?_, fun c hc => h.low c (List.mem_of_mem_drop hc)⟩
  show ((tl z).drop n).length ≤ _
  rw [List.length_drop, len_tl]
  exact Nat.le_refl _
theorem Lw.mid {z : Str} {m : Nat} (h : Lw z m) (i j : Nat) : Lw (cutS z (some (i : Int)) (some (j : Int))) (j - i) := by
  rw [cutS_two]
  refine ⟨?_, fun c hc => h.low c (List.mem_of_mem_take (List.mem_of_mem_drop hc))⟩
  show (((tl z).take j).drop i).length ≤ _
  rw [List.length_drop, List.length_take]
  omega
theorem Lw.tx {z : Str} {n : Nat} (h : Lw z n) (hn : n ≤ 5000) : Tx z := ⟨Nat.le_trans h.len hn, h.low⟩
theorem lw_mem {L : List Str} {n : Nat} (h : ∀ s ∈ L, s.length ≤ n ∧ ∀ c ∈ tl s, c < 128) {v : V} (hv : v ∈ L.map V.str) : ∃ s, v = .str s ∧ Lw s n := by
  obtain ⟨s, hs, rfl⟩ := List.mem_map.mp hv
  exact ⟨s, rfl, (h s hs).1, (h s hs).2⟩
def spBent : Sp := fun vs H Q _ => ∃ (b : Addr) (G : Hp) (z o : Str) (n m : Nat), vs = [.ref b, .str z, .str o] ∧ At b G H ∧ Lw z n ∧ n ≤ 4000 ∧ Lw o m ∧ m ≤ 1200 ∧ ∀ z' H', At b G H' → Lw z' (n + m + 16) → Q (.str z') H'
section
variable {P : Program} {w : World} {K : PySem.W.Frag} {mg : Str → Option Value} {base : Heap} {AA : Adr}
theorem ok_law_bent (T : Txt K mg AA) : Pr P w K mg base "_law_bent" s_law_bent p_law_bent 4 spBent := by
  refine pr_mk T.f_law_bent sc_law_bent (fun vs H Q E h => ?_) (fun f cdv A outer s H vs Q E hr h => ?_)
  · obtain ⟨b, G, z, o, n, m, rfl, _⟩ := h
    rfl
  · obtain ⟨b, G, z, o, n, m, rfl, hA, hz, hn, ho, hm, q⟩ := h
    refine ⟨_, (pss_cons (ps_par (i := 3) (j := 4) rfl sc_law_bent.nd rfl rfl (by decide) rfl rfl (pa_cons (pcall (ok_law_draw T) hr (pa_cons (pv 0) (pa_cons pe_int pa_nil))) (pa_cons (pcall (ok_law_draw T) hr (pa_cons (pv 0) (pa_cons (pe_op op_add (pe_callB call_len_str (by rfl) T.n_len PySem.boot_len (pa_cons (pv 1) pa_nil)) pe_int) pa_nil))) pa_nil)) rfl)
      (pss_cons (ps_set (i := 5) sc_law_bent.nd rfl (.inl rfl) (pcall (ok_law_of T) hr (pa_cons (pv 0) (pa_cons (pe_lst (pa_cons pe_str (pa_cons pe_str (pa_cons pe_str (pa_cons pe_str (pa_cons pe_str (pa_cons pe_str (pa_cons pe_str (pa_cons pe_str (pa_cons pe_str (pa_cons pe_str (pa_cons pe_str (pa_cons pe_str (pa_cons pe_str (pa_cons pe_str (pa_cons pe_str (pa_cons pe_str (pa_cons pe_str (pa_cons pe_str (pa_cons pe_str pa_nil)))))))))))))))))))) pa_nil))))
      (pss_cons (ps_if (pt_cmpR op_eq (pv 3) pe_int (nomark _))
      (pss_one (ps_ret (pe_op op_add_str (pe_op op_add_str (pe_slice sl_str (pv 1) po_none (po_some (pv 4))) (pv 5)) (pe_slice sl_str (pv 1) (po_some (pv 4)) po_none))))
      pss_nil)
      (pss_cons (ps_if (pt_cmpR op_eq (pv 3) pe_int (nomark _))
      (pss_one (ps_ret (pe_op op_add_str (pe_slice sl_str (pv 1) po_none (po_some (pv 4))) (pe_slice sl_str (pv 1) (po_some (pe_op op_add (pv 4) pe_int)) po_none))))
      pss_nil)
      (pss_cons (ps_if (pt_cmpR op_eq (pv 3) pe_int (nomark _))
      (pss_one (ps_ret (pe_op op_add_str (pe_op op_add_str (pe_slice sl_str (pv 1) po_none (po_some (pv 4))) (pv 5)) (pe_slice sl_str (pv 1) (po_some (pe_op op_add (pv 4) pe_int)) po_none))))
      pss_nil)
      (pss_cons (ps_if (pt_cmpR op_eq (pv 3) pe_int (nomark _))
      (pss_one (ps_ret (pe_slice sl_str (pv 1) po_none (po_some (pv 4)))))
      pss_nil)
      (pss_cons (ps_if (pt_cmpR op_eq (pv 3) pe_int (nomark _))
      (pss_one (ps_ret (pe_op op_add_str (pe_op op_add_str (pv 1) (pcall (ok_law_of T) hr (pa_cons (pv 0) (pa_cons (pe_lst (pa_cons pe_str (pa_cons pe_str (pa_cons pe_str (pa_cons pe_str (pa_cons pe_str (pa_cons pe_str (pa_cons pe_str (pa_cons pe_str pa_nil))))))))) pa_nil)))) (pv 2))))
      pss_nil)
      (pss_cons (ps_if (pt_cmpR op_eq (pv 3) pe_int (nomark _))
      (pss_one (ps_ret (pe_op op_add_str (pe_op op_add_str (pe_slice sl_str (pv 1) po_none (po_some (pv 4))) (pe_slice sl_str (pv 1) (po_some (pv 4)) (po_some (pe_op op_add (pe_op op_add (pv 4) pe_int) (pcall (ok_law_draw T) hr (pa_cons (pv 0) (pa_cons pe_int pa_nil))))))) (pe_slice sl_str (pv 1) (po_some (pv 4)) po_none))))
      pss_nil)
      (pss_cons (ps_if (pt_cmpR op_eq (pv 3) pe_int (nomark _))
      (pss_one (ps_ret (pe_op op_add_str (pe_op op_add_str (pe_op op_add_str (pe_slice sl_str (pv 1) po_none (po_some (pv 4))) (pe_slice sl_str (pv 1) (po_some (pe_op op_add (pv 4) pe_int)) (po_some (pe_op op_add (pv 4) pe_int)))) (pe_slice sl_str (pv 1) (po_some (pv 4)) (po_some (pe_op op_add (pv 4) pe_int)))) (pe_slice sl_str (pv 1) (po_some (pe_op op_add (pv 4) pe_int)) po_none))))
      pss_nil)
      (pss_one (ps_ret (pcall (ok_law_of T) hr (pa_cons (pv 0) (pa_cons (pe_lst (pa_cons (pe_op op_add_str pe_str (pv 1)) (pa_cons (pe_op op_add_str (pv 1) pe_str) (pa_cons (pe_op op_add_str pe_str (pv 1)) (pa_cons (pe_op op_add_str (pv 1) pe_str) (pa_cons (pe_op op_add_str (pv 1) pe_str) (pa_cons (pe_op op_add_str (pv 1) pe_str) (pa_cons (pe_op op_add_str (pe_op op_add_str (pe_op op_add_str pe_str (pv 1)) pe_str) (pv 2)) pa_nil)))))))) pa_nil)))))))))))))), ?_⟩
    have hzl := hz.len
    have hol := ho.len
    refine ⟨_, rfl, b, 8, G, rfl, hA, by decide, by decide, fun tn H1 t0 t1 hA1 => ⟨_, rfl, _, rfl, z, rfl, sz_of (by omega), _, _, rfl, rfl, b, _, G, rfl, hA1, by omega, by omega, fun sp H2 s0 s1 hA2 => ⟨_, _, rfl, ?_⟩⟩⟩
    obtain ⟨k, rfl⟩ := Int.eq_ofNat_of_zero_le s0
    have hk : k ≤ z.length := by omega
    refine ⟨_, rfl, by show 19 ≤ sizeLine; decide, fun p hp => ⟨b, .ref p, _, _, rfl, hA2.new hp, .inl ⟨p, rfl, sq_of upd_same⟩, by show 0 < 19; decide, by show 19 < 1073741824; decide, fun gv H3 hg hA3 => ?_⟩⟩
    have hA3 := hA3.weak (Ex.new (hA2.nh hp))
    obtain ⟨g, rfl, hgl⟩ := lw_mem (L := [" ", "&", "|", "(", ")", "a", " & ", " | ", "  ", "A", "1", "\n", "_", "~", ",", "()", "zzzzzz", ") & (", "&&"]) (n := 6) (by decide +kernel) hg
    have hg6 := hgl.len
    -- the parts
    have a1 := hz.to k
    have a2 := hz.from k
    have a3 := hz.from (k + 1)
    have a4 := hz.from (k + 2)
    have c1 : ((k : Int) + 1) = ((k + 1 : Nat) : Int) := by omega
    have c2 : ((k : Int) + 2) = ((k + 2 : Nat) : Int) := by omega
    have m12 := hz.mid (k + 1) (k + 2)
    have m01 := hz.mid k (k + 1)
    refine ⟨_, rfl, rfl, _, rfl, ite2 (fun _ => ?_) (fun _ => ?_)⟩
    · exact ⟨_, rfl, _, rfl, _, rfl, z, rfl, sz_of (by omega), _, rfl, _, _, rfl, rfl, sz_of (by have := (a1).len; have := (hgl).len; omega), _, rfl, _, rfl, _, rfl, z, rfl, sz_of (by omega), _, _, rfl, rfl, sz_of (by have := (a1.app hgl).len; have := (a2).len; omega), q _ _ hA3 (((a1.app hgl).app a2).le (by omega))⟩
    refine ⟨_, rfl, rfl, _, rfl, ite2 (fun _ => ?_) (fun _ => ?_)⟩
    · exact ⟨_, rfl, _, rfl, _, rfl, z, rfl, sz_of (by omega), _, rfl, _, rfl, _, _, rfl, rfl, ((k + 1 : Nat) : Int), congrArg V.int c1, z, rfl, sz_of (by omega), _, _, rfl, rfl, sz_of (by have := (a1).len; have := (a3).len; omega), q _ _ hA3 ((a1.app a3).le (by omega))⟩
    refine ⟨_, rfl, rfl, _, rfl, ite2 (fun _ => ?_) (fun _ => ?_)⟩
    · exact ⟨_, rfl, _, rfl, _, rfl, z, rfl, sz_of (by omega), _, rfl, _, _, rfl, rfl, sz_of (by have := (a1).len; have := (hgl).len; omega), _, rfl, _, rfl, _, _, rfl, rfl, ((k + 1 : Nat) : Int), congrArg V.int c1, z, rfl, sz_of (by omega), _, _, rfl, rfl, sz_of (by have := (a1.app hgl).len; have := (a3).len; omega), q _ _ hA3 (((a1.app hgl).app a3).le (by omega))⟩
    refine ⟨_, rfl, rfl, _, rfl, ite2 (fun _ => ?_) (fun _ => ?_)⟩
    · exact ⟨_, rfl, _, rfl, _, rfl, z, rfl, sz_of (by omega), q _ _ hA3 (a1.le (by omega))⟩
    refine ⟨_, rfl, rfl, _, rfl, ite2 (fun _ => ?_) (fun _ => ?_)⟩
    · refine ⟨_, rfl, _, rfl, by show 8 ≤ sizeLine; decide, fun p2 hp2 => ⟨b, .ref p2, _, _, rfl, hA3.new hp2, .inl ⟨p2, rfl, sq_of upd_same⟩, by show 0 < 8; decide, by show 8 < 1073741824; decide, fun gv2 H4 hg2 hA4 => ?_⟩⟩
      have hA4 := hA4.weak (Ex.new (hA3.nh hp2))
      obtain ⟨g2, rfl, hgl2⟩ := lw_mem (L := ["", " ", " & ", " | ", "&", "(", ")", "\n"]) (n := 6) (by decide +kernel) hg2
      exact ⟨_, _, rfl, rfl, sz_of (by have := (hz).len; have := (hgl2).len; omega), _, rfl, _, _, rfl, rfl, sz_of (by have := (hz.app hgl2).len; have := (ho).len; omega), q _ _ hA4 (((hz.app hgl2).app ho).le (by omega))⟩
    refine ⟨_, rfl, rfl, _, rfl, ite2 (fun _ => ?_) (fun _ => ?_)⟩
    · refine ⟨_, rfl, _, rfl, _, rfl, z, rfl, sz_of (by omega), _, rfl, _, rfl, _, rfl, _, rfl, _, _, rfl, rfl, _, rfl, b, 7, G, rfl, hA3, by decide, by decide, fun dv H4 d0 d1 hA4 => ?_⟩
      obtain ⟨e, rfl⟩ := Int.eq_ofNat_of_zero_le d0
      have c3 : ((k : Int) + 1) + (e : Int) = ((k + 1 + e : Nat) : Int) := by omega
      have m3 := hz.mid k (k + 1 + e)
      exact ⟨_, _, rfl, rfl, ((k + 1 + e : Nat) : Int), congrArg V.int c3, z, rfl, sz_of (by omega), _, _, rfl, rfl, sz_of (by have := (a1).len; have := (m3).len; omega), _, rfl, _, rfl, _, rfl, z, rfl, sz_of (by omega), _, _, rfl, rfl, sz_of (by have := (a1.app m3).len; have := (a2).len; omega), q _ _ hA4 (((a1.app m3).app a2).le (by omega))⟩
    refine ⟨_, rfl, rfl, _, rfl, ite2 (fun _ => ?_) (fun _ => ?_)⟩
    · exact ⟨_, rfl, _, rfl, _, rfl, z, rfl, sz_of (by omega), _, rfl, _, rfl, _, _, rfl, rfl, ((k + 1 : Nat) : Int), congrArg V.int c1, _, rfl, _, _, rfl, rfl, ((k + 2 : Nat) : Int), congrArg V.int c2, z, rfl, sz_of (by omega), _, _, rfl, rfl, sz_of (by have := (a1).len; have := (m12).len; omega), _, rfl, _, rfl, _, rfl, _, rfl, _, _, rfl, rfl, ((k + 1 : Nat) : Int), congrArg V.int c1, z, rfl, sz_of (by omega), _, _, rfl, rfl, sz_of (by have := (a1.app m12).len; have := (m01).len; omega), _, rfl, _, rfl, _, _, rfl, rfl, ((k + 2 : Nat) : Int), congrArg V.int c2, z, rfl, sz_of (by omega), _, _, rfl, rfl, sz_of (by have := ((a1.app m12).app m01).len; have := (a4).len; omega), q _ _ hA3 ((((a1.app m12).app m01).app a4).le (by omega))⟩
    · have w1 : Lw (Str.ofString "(") 1 := ⟨by decide +kernel, by decide +kernel⟩
      have w2 : Lw (Str.ofString ")") 1 := ⟨by decide +kernel, by decide +kernel⟩
      have w3 : Lw (Str.ofString " ") 1 := ⟨by decide +kernel, by decide +kernel⟩
      have w4 : Lw (Str.ofString " &") 2 := ⟨by decide +kernel, by decide +kernel⟩
      have w5 : Lw (Str.ofString " | ") 3 := ⟨by decide +kernel, by decide +kernel⟩
      have w6 : Lw (Str.ofString ") & ") 4 := ⟨by decide +kernel, by decide +kernel⟩
      refine ⟨_, rfl, _, rfl, _, _, rfl, rfl, sz_of (by have := (w1).len; have := (hz).len; omega), _, rfl, _, _, rfl, rfl, sz_of (by have := (hz).len; have := (w2).len; omega), _, rfl, _, _, rfl, rfl, sz_of (by have := (w3).len; have := (hz).len; omega), _, rfl, _, _, rfl, rfl, sz_of (by have := (hz).len; have := (w3).len; omega), _, rfl, _, _, rfl, rfl, sz_of (by have := (hz).len; have := (w4).len; omega), _, rfl, _, _, rfl, rfl, sz_of (by have := (hz).len; have := (w5).len; omega), _, rfl, _, _, rfl, rfl, sz_of (by have := (w1).len; have := (hz).len; omega), _, _, rfl, rfl, sz_of (by have := (w1.app hz).len; have := (w6).len; omega), _, rfl, _, _, rfl, rfl, sz_of (by have := ((w1.app hz).app w6).len; have := (ho).len; omega), by show 7 ≤ sizeLine; decide, fun p2 hp2 => ⟨b, .ref p2, _, _, rfl, hA3.new hp2, .inl ⟨p2, rfl, sq_of upd_same⟩, by show 0 < 7; decide, by show 7 < 1073741824; decide, fun gv2 H4 hg2 hA4 => ?_⟩⟩
      have hA4 := hA4.weak (Ex.new (hA3.nh hp2))
      simp only [List.mem_cons, List.not_mem_nil, or_false] at hg2
      rcases hg2 with rfl | rfl | rfl | rfl | rfl | rfl | rfl
      · exact q _ _ hA4 ((w1.app hz).le (by omega))
      · exact q _ _ hA4 ((hz.app w2).le (by omega))
      · exact q _ _ hA4 ((w3.app hz).le (by omega))
      · exact q _ _ hA4 ((hz.app w3).le (by omega))
      · exact q _ _ hA4 ((hz.app w4).le (by omega))
      · exact q _ _ hA4 ((hz.app w5).le (by omega))
      · exact q _ _ hA4 ((((w1.app hz).app w6).app ho).le (by omega))
end
end Eyes

set_option Elab.async false
set_option linter.all false
set_option maxRecDepth 100000
set_option maxHeartbeats 4000000
namespace Eyes
open PySem PySem.Spec PyProof.Rows L2 Evl TL LamX
def spLong (K : PySem.W.Frag) (AA : Adr) : Sp := fun vs H Q _ => ∃ (b tla : Addr) (G : Hp) (ts : List Str), vs = [.ref b, .ref tla] ∧ At b G H ∧ Tabs (TT AA) G ∧ G tla = some (.lst (ts.map V.str)) ∧ 2 ≤ ts.length ∧ (∀ t ∈ ts, nm t) ∧ ∀ G' H', At b G' H' → ExtN G G' → Tabs (TT AA) G' → Q (.bl true) H'
theorem nm_lw {t : Str} (h : nm t) : Lw t 6 := ⟨h.2.1, fun c hc => by have := h.2.2 c hc; omega⟩
theorem rep_lw {c n : Nat} (hc : c < 128) : Lw ⟨(List.replicate n c).toArray⟩ n := by
  refine ⟨?_, fun x hx => ?_⟩
  · show (List.replicate n c).toArray.size ≤ n
    rw [List.size_toArray, List.length_replicate]
    exact Nat.le_refl _
  · have hx : x ∈ List.replicate n c := hx
    rw [List.eq_of_mem_replicate hx]
    exact hc
theorem repT_lw {z : Str} {m n : Nat} (h : Lw z m) : Lw ⟨((List.replicate n z.cps.toList).flatten).toArray⟩ (n * m) := by
  refine ⟨?_, fun x hx => ?_⟩
  · show ((List.replicate n z.cps.toList).flatten).toArray.size ≤ n * m
    have hl : z.cps.toList.length = z.length := Array.length_toList
    rw [List.size_toArray, flat_len_rep, hl]
    exact Nat.mul_le_mul_left _ h.len
  · have hx : x ∈ (List.replicate n z.cps.toList).flatten := hx
    obtain ⟨l, hl, hxl⟩ := List.mem_flatten.mp hx
    rw [List.eq_of_mem_replicate hl] at hxl
    exact h.low x hxl
theorem Lw.any {z : Str} {m : Nat} (h : Lw z m) (lo hi : Option Int) : Lw (cutS z lo hi) m := by
  refine ⟨Nat.le_trans (cutS_length z lo hi) h.len, fun c hc => ?_⟩
  have hc : c ∈ (z.cps.toList.drop _).take _ := hc
  exact h.low c (List.mem_of_mem_drop (List.mem_of_mem_take hc))
theorem join_lw {S : Str} {m k : Nat} (hS : Lw S m) : ∀ {l : List Str}, (∀ s ∈ l, Lw s k) → Lw (Txt.join S l) (l.length * (k + m)) := by
  intro l h
  have hj : tl (Txt.join S l) = joinL (tl S) (l.map tl) := by rw [TL.join_eq, tl_join]
  have key : ∀ l : List Str, (∀ s ∈ l, Lw s k) → (joinL (tl S) (l.map tl)).length ≤ l.length * (k + m) ∧ ∀ c ∈ joinL (tl S) (l.map tl), c < 128 := by
    intro l
    induction l with
    | nil => exact fun _ => ⟨Nat.zero_le _, fun c hc => by cases hc⟩
    | cons s r ih =>
      intro h
      have hs := h s List.mem_cons_self
      obtain ⟨i1, i2⟩ := ih fun t ht => h t (List.mem_cons_of_mem _ ht)
      have sl := hs.len
      have Sl := hS.len
      rw [len_tl] at sl Sl
      cases r with
      | nil =>
        refine ⟨?_, hs.low⟩
        show (tl s).length ≤ 1 * (k + m)
        omega
      | cons s2 r =>
        have e : joinL (tl S) ((s :: s2 :: r).map tl) = tl s ++ (tl S ++ joinL (tl S) ((s2 :: r).map tl)) := rfl
        rw [e]
        refine ⟨?_, fun c hc => ?_⟩
        · rw [List.length_append, List.length_append, List.length_cons (as := s2 :: r), Nat.add_mul]
          omega
        · rcases List.mem_append.mp hc with hc | hc
          · exact hs.low c hc
          · rcases List.mem_append.mp hc with hc | hc
            · exact hS.low c hc
            · exact i2 c hc
  obtain ⟨a, b⟩ := key l h
  refine ⟨?_, fun c hc => ?_⟩
  · rw [len_tl, hj]
    exact a
  · rw [hj] at hc
    exact b c hc
theorem cut_strs (cs : List Str) (lo hi : Option Int) : ∃ L : List Str, cutV (cs.map V.str) lo hi = L.map V.str ∧ (∀ s ∈ L, s ∈ cs) ∧ L.length ≤ cs.length := by
  unfold cutV
  generalize HT.sIx (cs.map V.str).length 0 lo = a
  generalize HT.sIx (cs.map V.str).length (cs.map V.str).length hi - a = n
  refine ⟨(cs.drop a).take n, ?_, fun s hs => List.mem_of_mem_drop (List.mem_of_mem_take hs), ?_⟩
  · rw [← List.map_drop, ← List.map_take]
  · rw [List.length_take, List.length_drop]
    omega
theorem sum_lw {m : Nat} {l : List Str} (h : ∀ s ∈ l, Lw s m) : (l.map (·.length)).sum ≤ l.length * m := by
  induction l with
  | nil => exact Nat.zero_le _
  | cons s r ih =>
    have h1 := (h s List.mem_cons_self).len
    have h2 := ih fun t ht => h t (List.mem_cons_of_mem _ ht)
    rw [List.map_cons, List.sum_cons, List.length_cons, Nat.succ_mul]
    omega
section
variable {P : Program} {w : World} {K : PySem.W.Frag} {mg : Str → Option Value} {base : Heap} {AA : Adr}
theorem any_tx {b : Addr} {G H : Hp} {Q : VK} {z : Str} {n : Nat} (hA : At b G H) (hT : Tabs (TT AA) G) (hz : Lw z n) (hn : n ≤ 5000) (q : ∀ G' H', At b G' H' → ExtN G G' → Tabs (TT AA) G' → Q (.bl true) H') : spAny5 K AA [.str z] H Q (fun _ _ _ => False) := ⟨b, G, .str z, dueZ z, rfl, hA, hT, .tx rfl (hz.tx hn), q⟩
theorem ok_law_long_so (T : Txt K mg AA) (hw : AA.pp = w.params) (TB : TabB base mg AA.cdA AA.tbA) : Pr P w K mg base "_law_long_so" s_law_long_so p_law_long_so 82 (spLong K AA) := by
  refine pr_mk T.f_law_long_so sc_law_long_so (fun vs H Q E h => ?_) (fun f cdv A outer s H vs Q E hr h => ?_)
  · obtain ⟨b, tla, G, ts, rfl, _⟩ := h
    rfl
  · obtain ⟨b, tla, G, ts, rfl, hA, hT, htl, hts, hnm, q⟩ := h
    refine ⟨_, (pss_cons (ps_par (i := 2) (j := 3) rfl sc_law_long_so.nd rfl rfl (by decide) rfl rfl (pa_cons (pe_ix (ix_listK (K := K) rfl) (pv 1) pe_int (fun _ _ => rfl)) (pa_cons (pe_ix (ix_listK (K := K) rfl) (pv 1) pe_int (fun _ _ => rfl)) pa_nil)) rfl)
      (pss_cons (ps_set (i := 4) sc_law_long_so.nd rfl (.inl rfl) (pcall (ok_law_draw T) hr (pa_cons (pv 0) (pa_cons pe_int pa_nil))))
      (pss_cons (ps_if (pt_cmpR op_eq (pv 4) pe_int (nomark _))
      (pss_cons (ps_set (i := 5) sc_law_long_so.nd rfl (.inl rfl) (pcall (ok_law_of T) hr (pa_cons (pv 0) (pa_cons (pe_lst (pa_cons pe_int (pa_cons pe_int (pa_cons pe_int (pa_cons pe_int (pa_cons pe_int (pa_cons pe_int pa_nil))))))) pa_nil))))
      (pss_one (ps_ret (pe_and (pcall (ok_law_any_so T hw TB) hr (pa_cons (pe_op op_add_str (pe_op op_add_str (pe_op op_mulS pe_str (pv 5)) (pv 2)) (pe_op op_mulS pe_str (pv 5))) pa_nil)) (pe_one (pcall (ok_law_any_so T hw TB) hr (pa_cons (pe_op op_mulS pe_str (pv 5)) pa_nil)))))))
      pss_nil)
      (pss_cons (ps_if (pt_cmpR op_eq (pv 4) pe_int (nomark _))
      (pss_cons (ps_set (i := 5) sc_law_long_so.nd rfl (.inl rfl) (pcall (ok_law_of T) hr (pa_cons (pv 0) (pa_cons (pe_lst (pa_cons pe_int (pa_cons pe_int (pa_cons pe_int (pa_cons pe_int pa_nil))))) pa_nil))))
      (pss_cons (ps_set (i := 6) sc_law_long_so.nd rfl (.inl rfl) (pcall (ok_law_of T) hr (pa_cons (pv 0) (pa_cons (pe_lst (pa_cons (pv 2) (pa_cons (pe_op op_add_str (pe_op op_add_str (pv 2) pe_str) (pv 3)) (pa_cons (pe_op op_add_str (pe_op op_add_str (pv 2) pe_str) (pv 3)) pa_nil)))) pa_nil))))
      (pss_cons (ps_for PassesOwn.never rfl (pi_range1 (by rfl) T.n_range (pa_cons (pv 5) pa_nil)) (pg_name (i := 7) sc_law_long_so.nd rfl (.inl rfl))
      (pss_one (ps_set (i := 6) sc_law_long_so.nd rfl (.inl rfl) (pe_op op_add_str (pe_op op_add_str (pe_op op_add_str (pv 3) (pe_ix (ix_listK (K := K) rfl) (pe_lst (pa_cons pe_str (pa_cons pe_str pa_nil))) (pe_op op_mod (pv 7) pe_int) (fun _ _ => rfl))) (pv 6)) pe_str))))
      (pss_one (ps_ret (pe_and (pcall (ok_law_any_so T hw TB) hr (pa_cons (pv 6) pa_nil)) (pe_and (pcall (ok_law_any_so T hw TB) hr (pa_cons (pe_slice sl_str (pv 6) po_none (po_some (pe_op op_sub (pe_callB call_len_str (by rfl) T.n_len PySem.boot_len (pa_cons (pv 6) pa_nil)) pe_int))) pa_nil)) (pe_one (pcall (ok_law_any_so T hw TB) hr (pa_cons (pe_op op_add_str (pv 6) pe_str) pa_nil))))))))))
      pss_nil)
      (pss_cons (ps_if (pt_cmpR op_eq (pv 4) pe_int (nomark _))
      (pss_one (ps_ret (pe_and (pcall (ok_law_any_so T hw TB) hr (pa_cons (pe_op op_add_str (pe_op op_mulT (pe_op op_add_str (pv 2) pe_str) (pe_op op_add pe_int (pcall (ok_law_draw T) hr (pa_cons (pv 0) (pa_cons pe_int pa_nil))))) (pv 3)) pa_nil)) (pe_one (pcall (ok_law_any_so T hw TB) hr (pa_cons (pe_op op_add_str (pe_op op_add_str (pe_op op_mulT (pe_op op_add_str (pv 2) pe_str) pe_int) pe_str) (pv 3)) pa_nil))))))
      pss_nil)
      (pss_cons (ps_if (pt_cmpR op_eq (pv 4) pe_int (nomark _))
      (pss_cons (ps_set (i := 8) sc_law_long_so.nd rfl (.inr rfl) pe_str)
      (pss_cons (ps_setLc (i := 9) (own := [("_law_k", 7)]) (g := gName 7) (tt := tYes) rfl sc_law_long_so.nd rfl rfl (sw_true rfl rfl rfl (by decide +kernel)) (pi_range1 (by rfl) T.n_range (pa_cons (pe_op op_add pe_int (pcall (ok_law_draw T) hr (pa_cons (pv 0) (pa_cons pe_int pa_nil)))) pa_nil)) (blkOk_by (own := [("_law_k", 7)]) (N := n_law_long_so) (sc := defScope s_law_long_so) (by decide +kernel)) (fun _ _ _ _ _ => (pg_name (i := 7) sc_law_long_so.nd rfl (.inl rfl))) (fun _ _ _ _ _ => pts_nil) (fun _ _ _ _ _ => (pe_op op_add_str (pe_ix ix_str (pv 8) (pe_op op_mod (pv 7) pe_int) (fun _ _ => rfl)) (pe_ix ix_str (pv 8) (pe_op op_fdiv (pv 7) pe_int) (fun _ _ => rfl)))))
      (pss_cons (ps_set (i := 10) sc_law_long_so.nd rfl (.inl rfl) (pe_op op_add pe_int (pcall (ok_law_draw T) hr (pa_cons (pv 0) (pa_cons (pe_op op_sub (pe_callB (call_len_seqK (K := K) rfl) (by rfl) T.n_len PySem.boot_len (pa_cons (pv 9) pa_nil)) pe_int) pa_nil)))))
      (pss_cons (ps_par (i := 11) (j := 12) rfl sc_law_long_so.nd rfl rfl (by decide) rfl rfl (pa_cons (pe_join pe_str (pe_slice sl_list (pv 9) po_none (po_some (pv 10)))) (pa_cons (pe_join pe_str (pe_slice sl_list (pv 9) (po_some (pv 10)) po_none)) pa_nil)) rfl)
      (pss_one (ps_ret (pe_and (pcall (ok_law_any_so T hw TB) hr (pa_cons (pe_op op_add_str (pe_op op_add_str (pe_op op_add_str (pe_op op_add_str pe_str (pv 11)) pe_str) (pv 12)) pe_str) pa_nil)) (pe_and (pcall (ok_law_any_so T hw TB) hr (pa_cons (pe_op op_add_str (pe_op op_add_str (pe_op op_add_str (pe_op op_add_str pe_str (pv 11)) pe_str) (pv 12)) pe_str) pa_nil)) (pe_one (pcall (ok_law_any_so T hw TB) hr (pa_cons (pe_op op_add_str (pe_op op_add_str (pe_op op_add_str (pe_op op_add_str pe_str (pv 11)) pe_str) (pv 12)) pe_str) pa_nil)))))))))))
      pss_nil)
      (pss_cons (ps_if (pt_cmpR op_eq (pv 4) pe_int (nomark _))
      (pss_one (ps_ret (pe_and (pcall (ok_law_any_so T hw TB) hr (pa_cons (pe_op op_mulS pe_str (pe_op op_add pe_int (pcall (ok_law_draw T) hr (pa_cons (pv 0) (pa_cons pe_int pa_nil))))) pa_nil)) (pe_one (pcall (ok_law_any_so T hw TB) hr (pa_cons (pe_op op_add_str (pe_op op_add_str (pe_op op_add_str (pv 2) pe_str) (pe_slice sl_str pe_str po_none (po_some (pe_op op_add pe_int (pcall (ok_law_draw T) hr (pa_cons (pv 0) (pa_cons pe_int pa_nil))))))) pe_str) pa_nil))))))
      pss_nil)
      (pss_one (ps_ret (pe_and (pcall (ok_law_any_so T hw TB) hr (pa_cons (pe_op op_add_str (pe_op op_add_str (pe_op op_add_str pe_str (pv 2)) pe_str) (pv 3)) pa_nil)) (pe_and (pcall (ok_law_any_so T hw TB) hr (pa_cons (pe_op op_add_str (pe_op op_add_str (pe_op op_add_str (pv 2) pe_str) (pv 3)) pe_str) pa_nil)) (pe_one (pcall (ok_law_any_so T hw TB) hr (pa_cons (pe_op op_add_str (pe_op op_add_str (pe_op op_add_str (pe_op op_add_str (pe_op op_add_str (pe_op op_add_str pe_str (pv 2)) pe_str) (pv 3)) pe_str) (pv 2)) pe_str) pa_nil)))))))))))))), ?_⟩
    obtain ⟨tx, htx⟩ : ∃ tx, ts[0]? = some tx := ⟨ts[0], List.getElem?_eq_getElem (by omega)⟩
    obtain ⟨ty, hty⟩ : ∃ ty, ts[1]? = some ty := ⟨ts[1], List.getElem?_eq_getElem (by omega)⟩
    have hx := nm_lw (hnm tx (List.mem_of_getElem? htx))
    have hy := nm_lw (hnm ty (List.mem_of_getElem? hty))
    refine ⟨_, rfl, tla, _, 0, .str tx, rfl, rfl, sq_of (hA.ex _ _ htl), at_of (j := 0) rfl (by rw [List.getElem?_map, htx]; rfl), _, rfl, tla, _, 1, .str ty, rfl, rfl, sq_of (hA.ex _ _ htl), at_of (j := 1) rfl (by rw [List.getElem?_map, hty]; rfl), _, _, rfl, ?_⟩
    refine ⟨_, rfl, b, 6, G, rfl, hA, by decide, by decide, fun tn H1 t0 t1 hA1 => ?_⟩
    have w1 : Lw (Str.ofString "(") 1 := ⟨by decide +kernel, by decide +kernel⟩
    have w2 : Lw (Str.ofString ")") 1 := ⟨by decide +kernel, by decide +kernel⟩
    have w3 : Lw (Str.ofString " ") 1 := ⟨by decide +kernel, by decide +kernel⟩
    have wc : Lw (Str.ofString " | ") 3 := ⟨by decide +kernel, by decide +kernel⟩
    have wp : Lw (Str.ofString " & ") 3 := ⟨by decide +kernel, by decide +kernel⟩
    have wo : Lw (Str.ofString " (") 2 := ⟨by decide +kernel, by decide +kernel⟩
    have wj : Lw (Str.ofString ") & (") 5 := ⟨by decide +kernel, by decide +kernel⟩
    have wk : Lw (Str.ofString ") | (") 5 := ⟨by decide +kernel, by decide +kernel⟩
    have wl : Lw (Str.ofString ") ") 2 := ⟨by decide +kernel, by decide +kernel⟩
    refine ⟨_, rfl, rfl, _, rfl, ite2 (fun _ => ?_) (fun _ => ?_)⟩
    · refine ⟨_, rfl, by show 6 ≤ sizeLine; decide, fun p hp => ⟨b, .ref p, _, _, rfl, hA1.new hp, .inl ⟨p, rfl, sq_of upd_same⟩, by show 0 < 6; decide, by show 6 < 1073741824; decide, fun wv H2 hwv hA2 => ?_⟩⟩
      have hA2 := hA2.weak (Ex.new (hA1.nh hp))
      obtain ⟨wd, rfl, hwd⟩ : ∃ n : Nat, wv = .int n ∧ n ≤ 1200 := by
        simp only [List.mem_cons, List.not_mem_nil, or_false] at hwv
        rcases hwv with rfl | rfl | rfl | rfl | rfl | rfl
        · exact ⟨19, rfl, by omega⟩
        · exact ⟨20, rfl, by omega⟩
        · exact ⟨21, rfl, by omega⟩
        · exact ⟨22, rfl, by omega⟩
        · exact ⟨40, rfl, by omega⟩
        · exact ⟨1200, rfl, by omega⟩
      have r1 := rep_lw (c := 40) (n := wd) (by decide)
      have r2 := rep_lw (c := 41) (n := wd) (by decide)
      exact ⟨_, rfl, 40, wd, rfl, rfl, by omega, _, rfl, _, _, rfl, rfl, sz_of (by have := (r1).len; have := (hx).len; omega), _, rfl, 41, wd, rfl, rfl, by omega, _, _, rfl, rfl, sz_of (by have := (r1.app hx).len; have := (r2).len; omega), b, _, _, _, rfl, hA2, hT, .tx rfl (Lw.tx ((r1.app hx).app r2) (by omega)), fun G3 H3 hA3 n3 t3 => ⟨_, rfl, iteT ⟨_, rfl, 40, wd, rfl, rfl, by omega, b, _, _, _, rfl, hA3, t3, .tx rfl (Lw.tx r1 (by omega)), fun G4 H4 hA4 n4 t4 => q G4 H4 hA4 (n3.trans n4) t4⟩⟩⟩
    refine ⟨_, rfl, rfl, _, rfl, ite2 (fun _ => ?_) (fun _ => ?_)⟩
    · refine ⟨_, rfl, by show 4 ≤ sizeLine; decide, fun p hp => ⟨b, .ref p, _, _, rfl, hA1.new hp, .inl ⟨p, rfl, sq_of upd_same⟩, by show 0 < 4; decide, by show 4 < 1073741824; decide, fun wv H2 hwv hA2 => ?_⟩⟩
      have hA2 := hA2.weak (Ex.new (hA1.nh hp))
      obtain ⟨wd, rfl, hwd⟩ : ∃ n : Nat, wv = .int n ∧ n ≤ 21 := by
        simp only [List.mem_cons, List.not_mem_nil, or_false] at hwv
        rcases hwv with rfl | rfl | rfl | rfl
        · exact ⟨18, rfl, by omega⟩
        · exact ⟨19, rfl, by omega⟩
        · exact ⟨20, rfl, by omega⟩
        · exact ⟨21, rfl, by omega⟩
      refine ⟨_, rfl, _, rfl, _, rfl, _, _, rfl, rfl, sz_of (by have := (hx).len; have := (wc).len; omega), _, rfl, _, _, rfl, rfl, sz_of (by have := (hx.app wc).len; have := (hy).len; omega), _, rfl, _, _, rfl, rfl, sz_of (by have := (hx).len; have := (wp).len; omega), _, rfl, _, _, rfl, rfl, sz_of (by have := (hx.app wp).len; have := (hy).len; omega), by show 3 ≤ sizeLine; decide, fun p2 hp2 => ⟨b, .ref p2, _, _, rfl, hA2.new hp2, .inl ⟨p2, rfl, sq_of upd_same⟩, by show 0 < 3; decide, by show 3 < 1073741824; decide, fun gv H3 hgv hA3 => ?_⟩⟩
      have hA3 := hA3.weak (Ex.new (hA2.nh hp2))
      obtain ⟨g, rfl, hg⟩ : ∃ g, gv = .str g ∧ Lw g 15 := by
        simp only [List.mem_cons, List.not_mem_nil, or_false] at hgv
        rcases hgv with rfl | rfl | rfl
        · exact ⟨_, rfl, hx.le (by omega)⟩
        · exact ⟨_, rfl, (hx.app wc).app hy⟩
        · exact ⟨_, rfl, (hx.app wp).app hy⟩
      refine ⟨_, rfl, (wd : Int), rfl, by omega, by omega, ?_⟩
      refine for_it walk_range (fun i σ H' => ∃ (s : Str) (y7 : Option V), σ = [some (.ref b), some (.ref tla), some (.str tx), some (.str ty), some (.int tn), some (.int (wd : Int)), some (.str s), y7, none, none, none, none, none] ∧ At b G H' ∧ Lw s (15 + 11 * i)) ⟨g, none, rfl, hA3, hg⟩ (fun _ _ _ _ _ => True.intro) (fun i kv σ H4 H5 hi hp3 hy3 => ?_) (fun σ H4 hp3 => ?_)
      · obtain ⟨rfl, rfl⟩ := hy3
        obtain ⟨s, y7, rfl, hA4, hs⟩ := hp3
        have hi21 : i < 21 := by omega
        have hsl := hs.len
        obtain ⟨v, hv, hv4⟩ : ∃ v, atI [V.str (Str.ofString " & ("), V.str (Str.ofString " | (")] ((0 + (i : Int)) % 2) = some (.str v) ∧ Lw v 4 := by
          rcases (show ((0 : Int) + (i : Int)) % 2 = 0 ∨ ((0 : Int) + (i : Int)) % 2 = 1 by omega) with e | e
          · exact ⟨Str.ofString " & (", by rw [e]; rfl, by decide +kernel, by decide +kernel⟩
          · exact ⟨Str.ofString " | (", by rw [e]; rfl, by decide +kernel, by decide +kernel⟩
        refine ⟨_, rfl, by show 2 ≤ sizeLine; decide, fun p4 hp4 => ⟨_, rfl, _, 2, rfl, rfl, (show (0 : Int) < 2 by decide), p4, _, _, .str v, rfl, rfl, sq_of upd_same, hv, _, _, rfl, rfl, sz_of (by have := (hy).len; have := (hv4).len; omega), _, rfl, _, _, rfl, rfl, sz_of (by have := (hy.app hv4).len; have := (hs).len; omega), _, _, rfl, rfl, sz_of (by have := ((hy.app hv4).app hs).len; have := (w2).len; omega), _, _, rfl, hA4.mono (Ex.new hp4), (((hy.app hv4).app hs).app w2).le (by omega)⟩⟩
      · obtain ⟨s, y7, rfl, hA4, hs⟩ := hp3
        have hs := hs.le (m := 300) (by omega)
        have hsl := hs.len
        exact ⟨_, rfl, b, _, _, _, rfl, hA4, hT, .tx rfl (Lw.tx hs (by omega)), fun G3 H5 hA5 n3 t3 => ⟨_, rfl, iteT ⟨_, rfl, _, rfl, s, rfl, sz_of (by omega), _, _, rfl, rfl, _, rfl, s, rfl, sz_of (by omega), b, _, _, _, rfl, hA5, t3, .tx rfl (Lw.tx (hs.any _ _) (by omega)), fun G4 H6 hA6 n4 t4 => ⟨_, rfl, iteT ⟨_, rfl, _, _, rfl, rfl, sz_of (by have := (hs).len; have := (w3).len; omega), b, _, _, _, rfl, hA6, t4, .tx rfl (Lw.tx (hs.app w3) (by omega)), fun G5 H7 hA7 n5 t5 => q G5 H7 hA7 ((n3.trans n4).trans n5) t5⟩⟩⟩⟩⟩
    refine ⟨_, rfl, rfl, _, rfl, ite2 (fun _ => ?_) (fun _ => ?_)⟩
    · refine ⟨_, rfl, _, _, rfl, rfl, sz_of (by have := (hx).len; have := (wc).len; omega), _, rfl, b, 200, G, rfl, hA1, by decide, by decide, fun dv H2 d0 d1 hA2 => ?_⟩
      obtain ⟨e, rfl⟩ := Int.eq_ofNat_of_zero_le d0
      have he : e < 200 := by omega
      have c1 : (1 : Int) + (e : Int) = ((1 + e : Nat) : Int) := by omega
      have l9 := (hx.app wc).len
      have r1 := (repT_lw (n := 1 + e) (hx.app wc)).le (m := 1800) (by omega)
      have r2 := (repT_lw (n := 300) (hx.app wp))
      have l9p := (hx.app wp).len
      exact ⟨1, _, rfl, rfl, _, 1 + e, rfl, congrArg V.int c1, by omega, by omega, _, rfl, _, _, rfl, rfl, sz_of (by have := (r1).len; have := (hy).len; omega), b, _, _, _, rfl, hA2, hT, .tx rfl (Lw.tx (r1.app hy) (by omega)), fun G3 H3 hA3 n3 t3 => ⟨_, rfl, iteT ⟨_, rfl, _, _, rfl, rfl, sz_of (by have := (hx).len; have := (wp).len; omega), _, 300, rfl, rfl, by omega, by omega, _, _, rfl, rfl, sz_of (by have := (r2).len; have := (w3).len; omega), _, rfl, _, _, rfl, rfl, sz_of (by have := (r2.app w3).len; have := (hy).len; omega), b, _, _, _, rfl, hA3, t3, .tx rfl (Lw.tx ((r2.app w3).app hy) (by omega)), fun G4 H4 hA4 n4 t4 => q G4 H4 hA4 (n3.trans n4) t4⟩⟩⟩
    refine ⟨_, rfl, rfl, _, rfl, ite2 (fun _ => ?_) (fun _ => ?_)⟩
    · refine ⟨_, rfl, b, 4, G, rfl, hA1, by decide, by decide, fun dv H2 d0 d1 hA2 => ⟨59, dv, rfl, rfl, _, rfl, by omega, by omega, fun DD hDD => ?_⟩⟩
      have hab : tl (Str.ofString "abcdefghijklmnopqrstuvwxyz") = [97, 98, 99, 100, 101, 102, 103, 104, 105, 106, 107, 108, 109, 110, 111, 112, 113, 114, 115, 116, 117, 118, 119, 120, 121, 122] := by decide +kernel
      have hat : ∀ j : Int, 0 ≤ j → j < 26 → ∃ c, atI (Str.ofString "abcdefghijklmnopqrstuvwxyz").cps.toList j = some c ∧ c < 128 := fun j h0 h1 => by
        obtain ⟨e, rfl⟩ := Int.eq_ofNat_of_zero_le h0
        have hl : e < (tl (Str.ofString "abcdefghijklmnopqrstuvwxyz")).length := by
          rw [hab]
          show e < 26
          omega
        refine ⟨(tl (Str.ofString "abcdefghijklmnopqrstuvwxyz"))[e], atI_nat (List.getElem?_eq_getElem hl), ?_⟩
        have hm := List.getElem_mem hl
        generalize (tl (Str.ofString "abcdefghijklmnopqrstuvwxyz"))[e] = c at hm
        rw [hab] at hm
        simp only [List.mem_cons, List.not_mem_nil, or_false] at hm
        omega
      have hls : (Str.ofString "abcdefghijklmnopqrstuvwxyz").length ≤ sizeLine := by decide +kernel
      refine lc_it walk_range (fun i H' => ∃ (cs : List Str), cs.length = i ∧ (∀ t ∈ cs, Lw t 2) ∧ At b (upd G DD (.lst (cs.map V.str))) H') ⟨[], rfl, (fun t ht => nomatch ht), hA2.new hDD⟩ (fun _ _ _ _ => True.intro) (fun i v H3 H4 hi hp hy => ?_) (fun H3 hp => ?_)
      · obtain ⟨rfl, rfl⟩ := hy
        obtain ⟨cs, hcl, hcs, hA3⟩ := hp
        have hi63 : i < 63 := by omega
        obtain ⟨c1, a1, l1⟩ := hat ((0 + (i : Int)) % 26) (by omega) (by omega)
        obtain ⟨c2, a2, l2⟩ := hat ((0 + (i : Int)) / 26) (by omega) (by omega)
        have s1 : Lw ⟨#[c1]⟩ 1 := ⟨Nat.le_refl _, fun c hc => by rw [List.mem_singleton.mp hc]; exact l1⟩
        have s2 : Lw ⟨#[c2]⟩ 1 := ⟨Nat.le_refl _, fun c hc => by rw [List.mem_singleton.mp hc]; exact l2⟩
        refine ⟨rfl, ⟨_, rfl, _, rfl, _, 26, rfl, rfl, (show (0 : Int) < 26 by decide), _, _, _, rfl, rfl, hls, a1, _, rfl, _, rfl, _, 26, rfl, rfl, ⟨by decide, by decide⟩, _, _, _, rfl, rfl, hls, a2, _, _, rfl, rfl, sz_of (by have := s1.len; have := s2.len; omega), _, hA3.ex _ _ upd_same, sz_lt (by rw [List.length_map]; omega), cs ++ [(⟨#[c1]⟩ : Str) ++ ⟨#[c2]⟩], by simp [hcl], fun t ht => ?_, ?_⟩⟩
        · rcases List.mem_append.mp ht with ht | ht
          · exact hcs t ht
          · rw [List.mem_singleton.mp ht]
            exact s1.app s2
        · rw [List.map_append]
          exact hA3.put
      · obtain ⟨cs, hcl, hcs, hA3⟩ := hp
        have hcl2 : 59 ≤ cs.length ∧ cs.length ≤ 63 := by omega
        have hDl := hA3.ex _ _ (upd_same (H := G) (a := DD) (o := HO.lst (cs.map V.str)))
        have hlen : ((cs.map V.str).length : Int) = (cs.length : Int) := by rw [List.length_map]
        have hpos : (0 : Int) < (cs.length : Int) - 1 := by omega
        refine ⟨_, rfl, _, rfl, DD, _, rfl, .inl (sq_of hDl), _, 1, rfl, rfl, b, (cs.length : Int) - 1, upd G DD (.lst (cs.map V.str)), (by rw [List.length_map]; rfl), hA3, hpos, by omega, fun ct H4 c0 c1 hA4 => ⟨1, ct, rfl, rfl, ?_⟩⟩
        have hDl4 := hA4.ex _ _ (upd_same (H := G) (a := DD) (o := HO.lst (cs.map V.str)))
        have hA4 := hA4.weak (Ex.new (hA2.nh hDD))
        have wp : Lw (Str.ofString " & ") 3 := ⟨by decide +kernel, by decide +kernel⟩
        obtain ⟨L1, e1, i1, n1⟩ := cut_strs cs none (some (1 + ct))
        obtain ⟨L2, e2, i2, n2⟩ := cut_strs cs (some (1 + ct)) none
        have j1 := (join_lw wp (l := L1) fun s hs => hcs s (i1 s hs)).le (m := 315) (by omega)
        have j2 := (join_lw wp (l := L2) fun s hs => hcs s (i2 s hs)).le (m := 315) (by omega)
        have g1 := sum_lw (l := L1) (m := 2) fun s hs => hcs s (i1 s hs)
        have g2 := sum_lw (l := L2) (m := 2) fun s hs => hcs s (i2 s hs)
        have lp := wp.len
        have f1 : (L1.map (·.length)).sum + L1.length * (Str.ofString " & ").length ≤ 16777216 := by
          have := Nat.mul_le_mul_left L1.length lp
          omega
        have f2 : (L2.map (·.length)).sum + L2.length * (Str.ofString " & ").length ≤ 16777216 := by
          have := Nat.mul_le_mul_left L2.length lp
          omega
        refine ⟨⟨_, rfl⟩, _, rfl, _, rfl, _, rfl, DD, _, rfl, sq_of hDl4, fun p1 hp1 => ?_⟩
        have hA5 := hA4.mono (Ex.new (o := .lst (cutV (cs.map V.str) none (some (1 + ct)))) hp1)
        have hDl5 := Ex.new (o := .lst (cutV (cs.map V.str) none (some (1 + ct)))) hp1 _ _ hDl4
        have hq1 := upd_same (H := H4) (a := p1) (o := HO.lst (cutV (cs.map V.str) none (some (1 + ct))))
        generalize upd H4 p1 (HO.lst (cutV (cs.map V.str) none (some (1 + ct)))) = H5 at hA5 hDl5 hq1 ⊢
        rw [e1] at hq1
        refine ⟨_, p1, L1, rfl, rfl, .inl (sq_of hq1), f1, ⟨_, rfl⟩, _, rfl, _, rfl, _, rfl, DD, _, rfl, sq_of hDl5, fun p2 hp2 => ?_⟩
        have hA6 := hA5.mono (Ex.new (o := .lst (cutV (cs.map V.str) (some (1 + ct)) none)) hp2)
        have hq2 := upd_same (H := H5) (a := p2) (o := HO.lst (cutV (cs.map V.str) (some (1 + ct)) none))
        generalize upd H5 p2 (HO.lst (cutV (cs.map V.str) (some (1 + ct)) none)) = H6 at hA6 hq2 ⊢
        rw [e2] at hq2
        refine ⟨_, p2, L2, rfl, rfl, .inl (sq_of hq2), f2, _, _, rfl, ?_⟩
        generalize Txt.join (Str.ofString " & ") L1 = z1 at j1 ⊢
        generalize Txt.join (Str.ofString " & ") L2 = z2 at j2 ⊢
        have jl1 := j1.len
        have jl2 := j2.len
        have q1 := (((w1.app j1).app wj).app j2).app w2
        have q2 := (((w1.app j1).app wk).app j2).app wl
        have q3 := (((w1.app j1).app wk).app j2).app w2
        exact ⟨_, rfl, _, _, rfl, rfl, sz_of (by have := w1.len; omega), _, _, rfl, rfl, sz_of (by have := (w1.app j1).len; have := wj.len; omega), _, rfl, _, _, rfl, rfl, sz_of (by have := ((w1.app j1).app wj).len; omega), _, _, rfl, rfl, sz_of (by have := (((w1.app j1).app wj).app j2).len; have := w2.len; omega), b, _, _, _, rfl, hA6, hT, .tx rfl (Lw.tx q1 (by omega)), fun G3 H7 hA7 n3 t3 => ⟨_, rfl, iteT
          ⟨_, rfl, _, _, rfl, rfl, sz_of (by have := w1.len; omega), _, _, rfl, rfl, sz_of (by have := (w1.app j1).len; have := wk.len; omega), _, rfl, _, _, rfl, rfl, sz_of (by have := ((w1.app j1).app wk).len; omega), _, _, rfl, rfl, sz_of (by have := (((w1.app j1).app wk).app j2).len; have := wl.len; omega), b, _, _, _, rfl, hA7, t3, .tx rfl (Lw.tx q2 (by omega)), fun G4 H8 hA8 n4 t4 => ⟨_, rfl, iteT
          ⟨_, rfl, _, _, rfl, rfl, sz_of (by have := w1.len; omega), _, _, rfl, rfl, sz_of (by have := (w1.app j1).len; have := wk.len; omega), _, rfl, _, _, rfl, rfl, sz_of (by have := ((w1.app j1).app wk).len; omega), _, _, rfl, rfl, sz_of (by have := (((w1.app j1).app wk).app j2).len; have := w2.len; omega), b, _, _, _, rfl, hA8, t4, .tx rfl (Lw.tx q3 (by omega)), fun G5 H9 hA9 n5 t5 => q G5 H9 hA9 ((n3.trans n4).trans n5) t5⟩⟩⟩⟩⟩
    refine ⟨_, rfl, rfl, _, rfl, ite2 (fun _ => ?_) (fun _ => ?_)⟩
    · refine ⟨_, rfl, b, 4, G, rfl, hA1, by decide, by decide, fun dv H2 d0 d1 hA2 => ?_⟩
      obtain ⟨e, rfl⟩ := Int.eq_ofNat_of_zero_le d0
      have he : e < 4 := by omega
      have c1 : (5 : Int) + (e : Int) = ((5 + e : Nat) : Int) := by omega
      have r1 := rep_lw (c := 97) (n := 5 + e) (by decide)
      have wz : Lw (Str.ofString "zyxwvutsrq") 10 := ⟨by decide +kernel, by decide +kernel⟩
      refine ⟨5, _, rfl, rfl, 97, 5 + e, rfl, congrArg V.int c1, by omega, b, _, _, _, rfl, hA2, hT, .tx rfl (Lw.tx r1 (by omega)), fun G3 H3 hA3 n3 t3 => ⟨_, rfl, iteT ⟨_, rfl, _, _, rfl, rfl, sz_of (by have := (hx).len; have := (wp).len; omega), _, rfl, b, 5, G3, rfl, hA3, by decide, by decide, fun d2 H4 d20 d21 hA4 => ?_⟩⟩⟩
      have wzc := wz.any none (some (5 + d2))
      exact ⟨5, _, rfl, rfl, _, rfl, _, rfl, sz_of (by have := wz.len; omega), _, _, rfl, rfl, sz_of (by have := (hx.app wp).len; have := (wzc).len; omega), _, _, rfl, rfl, sz_of (by have := ((hx.app wp).app wzc).len; have := (wp).len; omega), b, _, _, _, rfl, hA4, t3, .tx rfl (Lw.tx (((hx.app wp).app wzc).app wp) (by omega)), fun G4 H5 hA5 n4 t4 => q G4 H5 hA5 (n3.trans n4) t4⟩
    · exact ⟨_, rfl, _, _, rfl, rfl, sz_of (by have := (w1).len; have := (hx).len; omega), _, _, rfl, rfl, sz_of (by have := (w1.app hx).len; have := (w2).len; omega), _, rfl, _, _, rfl, rfl, sz_of (by have := ((w1.app hx).app w2).len; have := (hy).len; omega), b, _, _, _, rfl, hA1, hT, .tx rfl (Lw.tx (((w1.app hx).app w2).app hy) (by omega)), fun G3 H3 hA3 n3 t3 => ⟨_, rfl, iteT ⟨_, rfl, _, _, rfl, rfl, sz_of (by have := (hx).len; have := (wo).len; omega), _, rfl, _, _, rfl, rfl, sz_of (by have := (hx.app wo).len; have := (hy).len; omega), _, _, rfl, rfl, sz_of (by have := ((hx.app wo).app hy).len; have := (w2).len; omega), b, _, _, _, rfl, hA3, t3, .tx rfl (Lw.tx (((hx.app wo).app hy).app w2) (by omega)), fun G4 H4 hA4 n4 t4 => ⟨_, rfl, iteT ⟨_, rfl, _, _, rfl, rfl, sz_of (by have := (w1).len; have := (hx).len; omega), _, _, rfl, rfl, sz_of (by have := (w1.app hx).len; have := (wp).len; omega), _, rfl, _, _, rfl, rfl, sz_of (by have := ((w1.app hx).app wp).len; have := (hy).len; omega), _, _, rfl, rfl, sz_of (by have := (((w1.app hx).app wp).app hy).len; have := (wc).len; omega), _, rfl, _, _, rfl, rfl, sz_of (by have := ((((w1.app hx).app wp).app hy).app wc).len; have := (hx).len; omega), _, _, rfl, rfl, sz_of (by have := (((((w1.app hx).app wp).app hy).app wc).app hx).len; have := (w2).len; omega), b, _, _, _, rfl, hA4, t4, .tx rfl (Lw.tx ((((((w1.app hx).app wp).app hy).app wc).app hx).app w2) (by omega)), fun G5 H5 hA5 n5 t5 => q G5 H5 hA5 ((n3.trans n4).trans n5) t5⟩⟩⟩⟩⟩
end
end Eyes

set_option Elab.async false
set_option linter.all false
set_option maxRecDepth 100000
set_option maxHeartbeats 4000000
namespace Eyes
open PySem PySem.Spec PyProof.Rows L2 Evl TL LamX
def spLaw (K : PySem.W.Frag) (TT : List (Addr × Str)) : Sp := fun vs H Q _ => ∃ (a : Addr) (ns : List Int), vs = [.ref a] ∧ SqL K H a (ns.map V.int) ∧ ns.length ≤ 63 ∧ Tabs TT H ∧ ∀ H', Q (.bl true) H'
def bnd (i : Nat) : Nat := 1140 + 1156 * i
theorem lenB_3 {m : Nat} (h : m ≤ 3) : lenB m ≤ 1140 := by
  match m, h with
  | 0, _ => exact (by decide)
  | 1, _ => exact (by decide)
  | 2, _ => exact (by decide)
  | 3, _ => exact (by decide)
theorem sm_shape {C : Addr} {H : Hp} {n : Nat} {v u : V} (h : Sm C H n v u) : ∀ a, v = .ref a → (∃ xs, H a = some (.lst xs)) ∨ (∃ xs, H a = some (.tup xs)) ∨ ∃ C dx fs, H a = some (.ins C dx fs) := fun a e => by
  cases h with
  | sc h =>
    rcases h with h | ⟨_, h⟩ | ⟨_, h⟩ | ⟨_, h⟩
    all_goals
      rw [h] at e
      cases e
  | ci h1 _ _ =>
    obtain ⟨p, dx, l, vs, rfl, hp, _, _⟩ := h1.at_
    cases e
    exact .inr (.inr ⟨_, _, _, hp⟩)
  | lst h1 _ _ _ _ =>
    cases e
    exact .inl ⟨_, h1⟩
  | tup h1 _ _ _ _ =>
    cases e
    exact .inr (.inl ⟨_, h1⟩)
theorem Odd.thing {K : PySem.W.Frag} {C : Addr} {H : Hp} {v : V} (h : Odd K C H v) : ∃ r, Thing K H v r := by
  obtain ⟨k, h1, h2, _⟩ := h
  have sh := sm_shape h2
  cases k with
  | s z =>
    obtain ⟨rfl, hz1, hz2⟩ := h1
    exact ⟨_, .tx rfl ⟨by omega, hz2⟩⟩
  | i n =>
    have h1 : v = .int n := h1
    exact ⟨_, .no ⟨⟨_, by rw [h1]; exact .base (.int n), kit_ty (a := "int") (r := false) (by decide +kernel)⟩, sh⟩⟩
  | b c =>
    have h1 : v = .bl c := h1
    exact ⟨_, .no ⟨⟨_, by rw [h1]; exact .base (.bl c), kit_ty (a := "bool") (r := false) (by decide +kernel)⟩, sh⟩⟩
  | o =>
    obtain ⟨t, t1, t2, _⟩ := h1
    exact ⟨_, .no ⟨⟨t, t1, t2⟩, sh⟩⟩
section
variable {P : Program} {w : World} {K : PySem.W.Frag} {mg : Str → Option Value} {base : Heap} {AA : Adr}
theorem ok_law (T : Txt K mg AA) (hw : AA.pp = w.params) (TB : TabB base mg AA.cdA AA.tbA) : Pr P w K mg base "law" s_law p_law 90 (spLaw K (TT AA)) := by
  refine pr_mk T.f_law sc_law (fun vs H Q E h => ?_) (fun f cdv A outer s H vs Q E hr h => ?_)
  · obtain ⟨a, ns, rfl, _⟩ := h
    rfl
  · obtain ⟨a, ns, rfl, hS, hlen, hT, q⟩ := h
    refine ⟨_, (pss_cons (ps_set (i := 1) sc_law.nd rfl (.inl rfl) (pcall (ok_law_bag T) hr (pa_cons (pv 0) pa_nil)))
      (pss_cons (ps_set (i := 2) sc_law.nd rfl (.inl rfl) (pcall (ok_law_titles T) hr (pa_cons (pv 1) (pa_cons (pe_op op_add pe_int (pcall (ok_law_draw T) hr (pa_cons (pv 1) (pa_cons pe_int pa_nil)))) pa_nil))))
      (pss_cons (ps_set (i := 3) sc_law.nd rfl (.inl rfl) (pe_lst pa_nil))
      (pss_cons (ps_for PassesOwn.never rfl (pi_range1 (by rfl) T.n_range (pa_cons pe_int pa_nil)) (pg_name (i := 4) sc_law.nd rfl (.inl rfl))
      (pss_one (ps_expr (pe_bm PySem.F.plainAttrs_list PySem.F.slot_list_append PySem.F.type_list_append mt_append (pv 3) (pa_cons (pcall (ok_law_loose T 4) hr (pa_cons (pv 1) (pa_cons (pcall (ok_law_raw T 4) hr (pa_cons (pv 1) (pa_cons (pv 2) (pa_cons (pcall (ok_law_of T) hr (pa_cons (pv 1) (pa_cons (pe_lst (pa_cons pe_int (pa_cons pe_int (pa_cons pe_int (pa_cons pe_int (pa_cons pe_int pa_nil)))))) pa_nil))) pa_nil)))) pa_nil))) pa_nil)))))
      (pss_cons (ps_for PassesOwn.never rfl (pi_range1 (by rfl) T.n_range (pa_cons pe_int pa_nil)) (pg_name (i := 5) sc_law.nd rfl (.inl rfl))
      (pss_cons (ps_set (i := 6) sc_law.nd rfl (.inl rfl) (pcall (ok_law_of T) hr (pa_cons (pv 1) (pa_cons (pv 3) pa_nil))))
      (pss_cons (ps_for PassesOwn.never rfl (pi_range1 (by rfl) T.n_range (pa_cons (pcall (ok_law_of T) hr (pa_cons (pv 1) (pa_cons (pe_lst (pa_cons pe_int (pa_cons pe_int (pa_cons pe_int (pa_cons pe_int (pa_cons pe_int pa_nil)))))) pa_nil))) pa_nil)) (pg_name (i := 4) sc_law.nd rfl (.inl rfl))
      (pss_one (ps_set (i := 6) sc_law.nd rfl (.inl rfl) (pcall (ok_law_bent T) hr (pa_cons (pv 1) (pa_cons (pv 6) (pa_cons (pe_ix (ix_listK (K := K) rfl) (pv 3) pe_int (fun _ _ => rfl)) pa_nil)))))))
      (pss_one (ps_if (pt_not (pt_val (pcall (ok_law_any_so T hw TB) hr (pa_cons (pv 6) pa_nil))))
      (pss_one (ps_ret pe_bl))
      pss_nil)))))
      (pss_cons (ps_if (pt_not (pt_val (pcall (ok_law_long_so T hw TB) hr (pa_cons (pv 1) (pa_cons (pv 2) pa_nil)))))
      (pss_one (ps_ret pe_bl))
      pss_nil)
      (pss_cons (ps_for PassesOwn.never rfl (pi_list (pe_lst (pa_cons (pcall (ok_law_odd T) hr (pa_cons (pv 1) (pa_cons (pe_lst (pa_cons (pe_lst (pa_cons pe_str pa_nil)) (pa_cons (pe_tup (pa_cons pe_str pa_nil)) (pa_cons (pcall (Pr.bag (ok_law_circle T 25)) hr (pa_cons (pe_tup (pa_cons pe_str (pa_cons pe_str pa_nil))) pa_nil)) (pa_cons (pe_lst (pa_cons (pe_op op_add_str (pe_ix (ix_listK (K := K) rfl) (pv 2) pe_int (fun _ _ => rfl)) pe_str) pa_nil)) pa_nil))))) pa_nil))) (pa_cons pe_str (pa_cons pe_str (pa_cons pe_str (pa_cons (pe_ix (ix_listK (K := K) rfl) (pv 2) pe_int (fun _ _ => rfl)) pa_nil))))))) (pg_name (i := 7) sc_law.nd rfl (.inl rfl))
      (pss_one (ps_if (pt_not (pt_val (pcall (ok_law_any_so T hw TB) hr (pa_cons (pv 7) pa_nil))))
      (pss_one (ps_ret pe_bl))
      pss_nil)))
      (pss_one (ps_ret (pe_callB (cr_all rfl) (by rfl) T.n_all PyProof.Rows.boot_all (pa_cons (pe_lc (own := [("_law_words_here", 6)]) (g := gName 6) (tt := tYes) rfl sc_law.nd (pi_list (pv 3)) (blkOk_by (own := [("_law_words_here", 6)]) (N := n_law) (sc := defScope s_law) (by decide +kernel)) (fun _ _ _ _ _ => (pg_name (i := 6) sc_law.nd rfl (.inl rfl))) (fun _ _ _ _ _ => pts_nil) (fun _ _ _ _ _ => (pcall (ok_law_any_so T hw TB) hr (pa_cons (pv 6) pa_nil)))) pa_nil))))))))))), ?_⟩
    refine ⟨_, rfl, a, ns, rfl, hS, fun b H1 hb hA1 => ?_⟩
    -- titles
    refine ⟨_, rfl, _, rfl, b, 3, H, rfl, hA1, by decide, by decide, fun sz H2 z0 z1 hA2 => ⟨2, sz, rfl, rfl, b, 2 + sz, H, rfl, hA2, by omega, by omega, fun tla ts H3 htl hA3 hlt hnm => ?_⟩⟩
    have e1 : Ex H (upd H tla (.lst (ts.map V.str))) := Ex.new htl
    have hT1 : Tabs (TT AA) (upd H tla (.lst (ts.map V.str))) := hT.ext e1
    have hts2 : 2 ≤ ts.length := by omega
    have hts5 : ts.length ≤ 5 := by omega
    have hne : ts ≠ [] := fun e => by
      rw [e] at hts2
      exact absurd hts2 (by decide)
    have hT1' := upd_same (H := H) (a := tla) (o := HO.lst (ts.map V.str))
    generalize upd H tla (.lst (ts.map V.str)) = G1 at hA3 hT1 hT1'
    clear hA1 hA2 e1
    -- texts
    refine ⟨by show 0 ≤ sizeLine; decide, fun D hD => ?_⟩
    have htD : tla ≠ D := fun e => by
      rw [← e, hA3.ex _ _ hT1'] at hD
      cases hD
    have hA4 := hA3.new (o := .lst []) hD
    have x4 := Ex.new (o := .lst []) (hA3.nh hD)
    refine ⟨_, rfl, by decide, by decide, ?_⟩
    refine for_it walk_range (fun i σ H' => ∃ (G : Hp) (ss : List Str) (y4 : Option V), σ = [some (.ref a), some (.ref b), some (.ref tla), some (.ref D), y4, none, none, none] ∧ At b G H' ∧ G tla = some (.lst (ts.map V.str)) ∧ G D = some (.lst (ss.map V.str)) ∧ (∀ s ∈ ss, Lw s 1140) ∧ ss.length = i ∧ Tabs (TT AA) G) ⟨_, [], none, rfl, hA4, x4 _ _ hT1', upd_same, (fun u hu => nomatch hu), rfl, hT1.ext x4⟩ (fun _ _ _ _ _ => True.intro) (fun i kv σ H4 H5 hi hp hy => ?_) (fun σ H6 hp => ?_)
    · obtain ⟨rfl, rfl⟩ := hy
      obtain ⟨G, ss, y4, rfl, hA, htlG, hDG, hss, hsl, hT⟩ := hp
      clear hA3 hA4 hT1 hT1' x4 hD
      refine ⟨_, rfl, .inl ⟨rfl, _, sq_of (hA.ex _ _ hDG)⟩, _, rfl, _, rfl, _, rfl, _, rfl, by show 5 ≤ sizeLine; decide, fun p hp => ⟨b, .ref p, _, _, rfl, hA.new hp, .inl ⟨p, rfl, sq_of upd_same⟩, by show 0 < 5; decide, by show 5 < 1073741824; decide, fun dv H6 hdv hA6 => ?_⟩⟩
      have hA6 := hA6.weak (Ex.new (hA.nh hp))
      obtain ⟨d, rfl, hd3⟩ : ∃ d : Nat, dv = .int d ∧ d ≤ 3 := by
        simp only [List.mem_cons, List.not_mem_nil, or_false] at hdv
        rcases hdv with rfl | rfl | rfl | rfl | rfl
        · exact ⟨2, rfl, by omega⟩
        · exact ⟨1, rfl, by omega⟩
        · exact ⟨2, rfl, by omega⟩
        · exact ⟨3, rfl, by omega⟩
        · exact ⟨0, rfl, by omega⟩
      refine ⟨b, tla, d, G, ts, rfl, hA6, htlG, hne, by omega, hnm, by omega, by omega, fun v c G7 H7 x7 hA7 hv hraw => ⟨b, v, c, d, G7, rfl, hA7, hv, hraw, hd3, by omega, fun z H8 hA8 hrt hzl => ?_⟩⟩
      have hz : Lw z 1140 := ⟨Nat.le_trans hzl (lenB_3 hd3), hrt.facts.2.2.1⟩
      have hD8 := x7 _ _ hDG
      refine ⟨D, ss.map V.str, _, rfl, rfl, hA8.ex _ _ hD8, sz_lt (by rw [List.length_map]; have : Int.toNat 3 = 3 := rfl; omega), upd G7 D (.lst (ss.map V.str ++ [.str z])), ss ++ [z], _, rfl, hA8.set hD8, (upd_ne htD).trans (x7 _ _ htlG), ?_, ?_, by rw [List.length_append]; show ss.length + 1 = i + 1; omega, Tabs.lst hD8 (hT.ext x7)⟩
      · rw [upd_same, List.map_append]
        rfl
      · intro s hs
        rcases List.mem_append.mp hs with hs | hs
        · exact hss s hs
        · rw [List.mem_singleton.mp hs]
          exact hz
    · obtain ⟨G, ss, y4, rfl, hA, htlG, hDG, hss, hsl, hT⟩ := hp
      clear hA3 hA4 hT1 hT1' x4 hD
      have hs3 : ss.length = 3 := hsl
      obtain ⟨s0, hs0⟩ : ∃ s0, ss[0]? = some s0 := ⟨ss[0], List.getElem?_eq_getElem (by omega)⟩
      have hs0l := hss s0 (List.mem_of_getElem? hs0)
      have hdp : 0 < (ss.map V.str).length := by
        rw [List.length_map]
        omega
      have hdq : (ss.map V.str).length < 1073741824 := by
        rw [List.length_map]
        omega
      -- the turns
      refine ⟨_, rfl, by decide, by decide, ?_⟩
      refine for_it walk_range (fun i σ H' => ∃ (G : Hp) (y4 y5 y6 : Option V), σ = [some (.ref a), some (.ref b), some (.ref tla), some (.ref D), y4, y5, y6, none] ∧ At b G H' ∧ G tla = some (.lst (ts.map V.str)) ∧ G D = some (.lst (ss.map V.str)) ∧ Tabs (TT AA) G) ⟨_, _, none, none, rfl, hA, htlG, hDG, hT⟩ (fun _ _ _ _ _ => True.intro) (fun i kv σ H4 H5 hi hp hy => ?_) (fun σ H6 hp => ?_)
      · obtain ⟨rfl, rfl⟩ := hy
        clear hA htlG hDG hT
        obtain ⟨G, y4, y5, y6, rfl, hA, htlG, hDG, hT⟩ := hp
        refine ⟨_, rfl, _, rfl, b, .ref D, _, _, rfl, hA, .inl ⟨D, rfl, sq_of hDG⟩, hdp, hdq, fun wv H7 hwv hA7 => ?_⟩
        obtain ⟨z, hz, rfl⟩ := List.mem_map.mp hwv
        have hzl := hss z hz
        refine ⟨_, rfl, by show 5 ≤ sizeLine; decide, fun p hp => ⟨b, .ref p, _, _, rfl, hA7.new hp, .inl ⟨p, rfl, sq_of upd_same⟩, by show 0 < 5; decide, by show 5 < 1073741824; decide, fun nv H8 hnv hA8 => ?_⟩⟩
        have hA8 := hA8.weak (Ex.new (hA7.nh hp))
        obtain ⟨n, rfl, hn3⟩ : ∃ n : Nat, nv = .int n ∧ n ≤ 3 := by
          simp only [List.mem_cons, List.not_mem_nil, or_false] at hnv
          rcases hnv with rfl | rfl | rfl | rfl | rfl
          · exact ⟨1, rfl, by omega⟩
          · exact ⟨1, rfl, by omega⟩
          · exact ⟨1, rfl, by omega⟩
          · exact ⟨2, rfl, by omega⟩
          · exact ⟨3, rfl, by omega⟩
        refine ⟨_, rfl, by omega, by omega, ?_⟩
        refine for_it walk_range (fun j σ H' => ∃ (z : Str) (y4 : Option V), σ = [some (.ref a), some (.ref b), some (.ref tla), some (.ref D), y4, some (.int (0 + (i : Int))), some (.str z), none] ∧ At b G H' ∧ Lw z (bnd j)) ⟨z, y4, rfl, hA8, hzl⟩ (fun _ _ _ _ _ => True.intro) (fun j kv σ H9 H10 hj hp hy => ?_) (fun σ H9 hp => ?_)
        · obtain ⟨rfl, rfl⟩ := hy
          obtain ⟨z, y4, rfl, hA9, hz⟩ := hp
          have hj2 : j ≤ 2 := by omega
          refine ⟨_, rfl, _, rfl, _, rfl, D, _, 0, .str s0, rfl, rfl, sq_of (hA9.ex _ _ hDG), at_of (j := 0) rfl (by rw [List.getElem?_map, hs0]; rfl), b, G, z, s0, bnd j, 1140, rfl, hA9, hz, by unfold bnd; omega, hs0l, by omega, fun z' H' hA' hz' => ⟨_, _, rfl, hA', hz'.le (by unfold bnd; omega)⟩⟩
        · obtain ⟨z, y4, rfl, hA9, hz⟩ := hp
          have hn : ((n : Int)).toNat ≤ 3 := by omega
          exact ⟨_, rfl, b, _, _, _, rfl, hA9, hT, .tx rfl (Lw.tx hz (by unfold bnd; omega)), fun G' H' hA' n' t' => ⟨_, rfl, iteF ⟨G', _, _, _, rfl, hA', n' _ _ htlG (fun _ => nofun), n' _ _ hDG (fun _ => nofun), t'⟩⟩⟩
      · clear hA htlG hDG hT
        obtain ⟨G, y4, y5, y6, rfl, hA, htlG, hDG, hT⟩ := hp
        -- long
        refine ⟨_, rfl, _, rfl, b, tla, G, ts, rfl, hA, hT, htlG, hts2, hnm, fun G2 H2 hA2 n2 t2 => ⟨_, rfl, iteF ?_⟩⟩
        have htl2 := n2 _ _ htlG (fun _ => nofun)
        have hD2 := n2 _ _ hDG (fun _ => nofun)
        clear hA htlG hDG hT n2
        obtain ⟨tx, htx⟩ : ∃ tx, ts[0]? = some tx := ⟨ts[0], List.getElem?_eq_getElem (by omega)⟩
        have hx := nm_lw (hnm tx (List.mem_of_getElem? htx))
        have hxl := hx.len
        -- five things
        refine ⟨_, rfl, by show 1 ≤ sizeLine; decide, fun p1 hp1 => ⟨by show 1 ≤ sizeLine; decide, fun p2 hp2 => ⟨by show 2 ≤ sizeLine; decide, fun p3 hp3 => ?_⟩⟩⟩
        have hB1 := hA2.new (o := .lst [.str (Str.ofString "a")]) hp1
        have z1 := Ex.new (o := .lst [.str (Str.ofString "a")]) (hA2.nh hp1)
        have hB2 := hB1.new (o := .tup [.str (Str.ofString "a")]) hp2
        have z2 := Ex.new (o := .tup [.str (Str.ofString "a")]) (hB1.nh hp2)
        have hB3 := hB2.new (o := .tup [.str (Str.ofString "eye"), .str (Str.ofString "a")]) hp3
        have z3 := Ex.new (o := .tup [.str (Str.ofString "eye"), .str (Str.ofString "a")]) (hB2.nh hp3)
        refine circ_call (AA := AA) (c := .eye (Str.ofString "a")) hB3 (.tup upd_same (.cons (.str _) (.cons (.str _) .nil))) (eye_nice (by refine ⟨?_, ?_, ?_⟩ <;> decide +kernel)) fun vc G4 H4 hA4 x4 hvc => ?_
        have hp14 := x4 _ _ (z3 _ _ (z2 _ _ (upd_same (H := G2) (a := p1) (o := .lst [.str (Str.ofString "a")]))))
        have hp24 := x4 _ _ (z3 _ _ (upd_same (a := p2) (o := .tup [.str (Str.ofString "a")])))
        have x24 := ((z1.trans z2).trans z3).trans x4
        have htl4 := x24 _ _ htl2
        have hD4 := x24 _ _ hD2
        have t4 := t2.ext x24
        clear z1 z2 z3 hB1 hB2 hB3 hp1 hp2 hp3 htl2 hD2 t2 x24 x4
        have la : (Str.ofString " & a").length = 4 := by decide +kernel
        refine ⟨_, rfl, tla, _, 0, .str tx, rfl, rfl, sq_of (hA4.ex _ _ htl4), at_of (j := 0) rfl (by rw [List.getElem?_map, htx]; rfl), _, _, rfl, rfl, sz_of (by omega), by show 1 ≤ sizeLine; decide, fun p4 hp4 => ⟨by show 4 ≤ sizeLine; decide, fun p5 hp5 => ?_⟩⟩
        have hA5 := (hA4.new (o := .lst [.str (tx ++ Str.ofString " & a")]) hp4).new (o := .lst [.ref p1, .ref p2, vc, .ref p4]) hp5
        have z4 := Ex.new (o := .lst [.str (tx ++ Str.ofString " & a")]) (hA4.nh hp4)
        have z5 := Ex.new (o := .lst [.ref p1, .ref p2, vc, .ref p4]) ((hA4.new (o := .lst [.str (tx ++ Str.ofString " & a")]) hp4).nh hp5)
        refine ⟨b, p5, _, _, rfl, hA5, upd_same, by show 4 ≤ 20; decide, fun x hx => ?_, fun v G6 H6 x6 hA6 hodd _ => ?_⟩
        · simp only [List.mem_cons, List.not_mem_nil, or_false] at hx
          rcases hx with rfl | rfl | rfl | rfl
          · exact (Odd.rep T (.lst ((z4.trans z5) _ _ hp14) (.cons (.str _) .nil)) (by decide +kernel) (by decide +kernel) (fun z => nofun)).1
          · exact (Odd.rep T (.tup ((z4.trans z5) _ _ hp24) (.cons (.str _) .nil)) (by decide +kernel) (by decide +kernel) (fun z => nofun)).1
          · exact Odd.ci T (hvc.mono (z4.trans z5))
          · refine (Odd.rep T (.lst (z5 _ _ upd_same) (.cons (.str _) .nil)) ?_ ?_ (fun z => nofun)).1
            · simp only [PyData.depth, PyData.depthAll]
              decide
            · simp only [wid, widAll, List.length_cons, List.length_nil]
              decide
        have x46 := (z4.trans z5).trans x6
        have htl6 := x46 _ _ htl4
        have hD6 := x46 _ _ hD4
        have t6 := t4.ext x46
        obtain ⟨r0, hth⟩ := hodd.thing
        clear hA4 hA5 z4 z5 x6 x46 hp4 hp5 htl4 hD4 t4 hp14 hp24 hvc hodd
        refine ⟨_, rfl, tla, _, 0, .str tx, rfl, rfl, sq_of (hA6.ex _ _ htl6), at_of (j := 0) rfl (by rw [List.getElem?_map, htx]; rfl), by show 5 ≤ sizeLine; decide, fun p6 hp6 => ?_⟩
        have hA7 := hA6.new (o := .lst [v, .str (Str.ofString ""), .str (Str.ofString " a"), .str (Str.ofString "a "), .str tx]) hp6
        have z7 := Ex.new (o := .lst [v, .str (Str.ofString ""), .str (Str.ofString " a"), .str (Str.ofString "a "), .str tx]) (hA6.nh hp6)
        refine ⟨p6, rfl, ⟨_, sq_of upd_same⟩, for_list (xs := [v, .str (Str.ofString ""), .str (Str.ofString " a"), .str (Str.ofString "a "), .str tx]) (fun i σ H' => ∃ (G : Hp) (y7 : Option V), σ = [some (.ref a), some (.ref b), some (.ref tla), some (.ref D), y4, y5, y6, y7] ∧ At b G H' ∧ G p6 = some (.lst [v, .str (Str.ofString ""), .str (Str.ofString " a"), .str (Str.ofString "a "), .str tx]) ∧ Thing K G v r0 ∧ G D = some (.lst (ss.map V.str)) ∧ Tabs (TT AA) G) ⟨_, none, rfl, hA7, upd_same, hth.mono z7, z7 _ _ hD6, t6.ext z7⟩ (fun i σ H' _ hp => ?_) (fun i x σ H' hx hp => ?_) (fun σ H' hp => ?_)⟩
        · obtain ⟨_, _, rfl, h1, h2, _⟩ := hp
          exact sq_of (h1.ex _ _ h2)
        · obtain ⟨G, y7, rfl, h1, h2, h3, h4, h5⟩ := hp
          have hxm := List.mem_of_getElem? hx
          have ht : ∃ r, Thing K G x r := by
            simp only [List.mem_cons, List.not_mem_nil, or_false] at hxm
            rcases hxm with rfl | rfl | rfl | rfl | rfl
            · exact ⟨_, h3⟩
            · exact ⟨_, .tx rfl ⟨by decide +kernel, by decide +kernel⟩⟩
            · exact ⟨_, .tx rfl ⟨by decide +kernel, by decide +kernel⟩⟩
            · exact ⟨_, .tx rfl ⟨by decide +kernel, by decide +kernel⟩⟩
            · exact ⟨_, .tx rfl (Lw.tx (nm_lw (hnm tx (List.mem_of_getElem? htx))) (by omega))⟩
          obtain ⟨r, ht⟩ := ht
          exact ⟨_, rfl, b, G, x, r, rfl, h1, h5, ht, fun G2 H2 hA2 n2 t2 => ⟨_, rfl, iteF ⟨G2, _, rfl, hA2, n2 _ _ h2 (fun _ => nofun), h3.exN n2, n2 _ _ h4 (fun _ => nofun), t2⟩⟩⟩
        · obtain ⟨G, y7, rfl, h1, h2, h3, h4, h5⟩ := hp
          clear hA7 z7 hp6 hA6 htl6 hD6 t6 hth h2 h3
          -- all
          refine ⟨_, rfl, D, rfl, ⟨_, sq_of (h1.ex _ _ h4)⟩, fun DD hDD => lc_list (xs := ss.map V.str) (fun i H' => ∃ G' : Hp, At b G' H' ∧ G' D = some (.lst (ss.map V.str)) ∧ G' DD = some (.lst (List.replicate i (V.bl true))) ∧ Tabs (TT AA) G') ⟨_, h1.new (o := .lst []) hDD, Ex.new (o := .lst []) (h1.nh hDD) _ _ h4, upd_same, h5.ext (Ex.new (o := .lst []) (h1.nh hDD))⟩ (fun i H' _ hp => ?_) (fun i x H3 hx hp => ?_) (fun H' hp => ?_)⟩
          · obtain ⟨_, g1, g2, _⟩ := hp
            exact sq_of (g1.ex _ _ g2)
          · obtain ⟨G', g1, g2, g3, g4⟩ := hp
            have hi : i < (ss.map V.str).length := (List.getElem?_eq_some_iff.mp hx).1
            have hi3 : i < 3 := by
              rw [List.length_map] at hi
              omega
            obtain ⟨z, hz, rfl⟩ := List.mem_map.mp (List.mem_of_getElem? hx)
            have hDDD : D ≠ DD := fun e => by
              rw [← e, h1.ex _ _ h4] at hDD
              cases hDD
            refine ⟨rfl, _, rfl, b, _, _, _, rfl, g1, g4, .tx rfl (Lw.tx (hss z hz) (by omega)), fun G2 H2 hA2 n2 t2 => ?_⟩
            have k3 := n2 _ _ g3 (fun _ => nofun)
            refine ⟨_, hA2.ex _ _ k3, ?_, _, hA2.set k3, (upd_ne hDDD).trans (n2 _ _ g2 (fun _ => nofun)), ?_, Tabs.lst k3 t2⟩
            · rw [List.length_replicate]
              exact sz_lt (by omega)
            · rw [upd_same, List.replicate_succ']
          · obtain ⟨G', g1, g2, g3, g4⟩ := hp
            refine ⟨DD, List.replicate (ss.map V.str).length true, rfl, sq_of ((g1.ex _ _ g3).trans (by rw [List.map_replicate])), ?_⟩
            rw [show (List.replicate (ss.map V.str).length true).all id = true by simp]
            exact q _
end
end Eyes

set_option Elab.async false
set_option linter.all false
set_option maxRecDepth 100000
namespace Eyes
open PySem PySem.Spec PyProof.Rows L2
set_option maxHeartbeats 0 in
theorem txt_mk {K : PySem.W.Frag} {h : Heap} {mg : Str → Option Value} (X : K.In h) (G : h.Ns mainGlobals mg) {z_KINDS : Addr} {z_Circle : Addr} {z_InvalidName : Addr} {z_InvalidNumber : Addr} {z_InvalidText : Addr} {z_InvalidCircle : Addr} {z_InvalidTie : Addr} {z_InvalidParting : Addr} {z_InvalidCase : Addr} {z_TooMany : Addr} {z_cdA : Addr} {z_tbA : Addr} {z_pp : Params} {t20 : Tok} {t21 : Tok} {t22 : Tok} {t23 : Tok} {es25 : Array DictEntry} {n25 : Nat} {t26 : Tok} {t27 : Tok} {t38 : Tok} {t39 : Tok} {f40 : Addr} {oc40 : Value} {od40 : Option Addr} {an40 : Option Addr} {sl40 : Array (Option Value)} {kV40 : Value} {dc40 : Value} {pm40 : Value} {cd40 : Value} {ct40 : Value} {f41 : Addr} {oc41 : Value} {od41 : Option Addr} {an41 : Option Addr} {sl41 : Array (Option Value)} {kV41 : Value} {dc41 : Value} {pm41 : Value} {cd41 : Value} {ct41 : Value} {f42 : Addr} {oc42 : Value} {od42 : Option Addr} {an42 : Option Addr} {sl42 : Array (Option Value)} {kV42 : Value} {dc42 : Value} {pm42 : Value} {cd42 : Value} {ct42 : Value} {f43 : Addr} {oc43 : Value} {od43 : Option Addr} {an43 : Option Addr} {sl43 : Array (Option Value)} {kV43 : Value} {dc43 : Value} {pm43 : Value} {cd43 : Value} {ct43 : Value} {f44 : Addr} {oc44 : Value} {od44 : Option Addr} {an44 : Option Addr} {sl44 : Array (Option Value)} {kV44 : Value} {dc44 : Value} {pm44 : Value} {cd44 : Value} {ct44 : Value} {f45 : Addr} {oc45 : Value} {od45 : Option Addr} {an45 : Option Addr} {sl45 : Array (Option Value)} {kV45 : Value} {dc45 : Value} {pm45 : Value} {cd45 : Value} {ct45 : Value} {f46 : Addr} {oc46 : Value} {od46 : Option Addr} {an46 : Option Addr} {sl46 : Array (Option Value)} {kV46 : Value} {dc46 : Value} {pm46 : Value} {cd46 : Value} {ct46 : Value} {f47 : Addr} {oc47 : Value} {od47 : Option Addr} {an47 : Option Addr} {sl47 : Array (Option Value)} {kV47 : Value} {dc47 : Value} {pm47 : Value} {cd47 : Value} {ct47 : Value} {f48 : Addr} {oc48 : Value} {od48 : Option Addr} {an48 : Option Addr} {sl48 : Array (Option Value)} {kV48 : Value} {dc48 : Value} {pm48 : Value} {cd48 : Value} {ct48 : Value} {nm48 : Str} {qn48 : Str} {nn48 : Addr} {bs48 : List Value} {bm48 : List Value} {sb48 : List Value} {sn48 : List Str} {ab48 : Bool} {co48 : Option Bool} {dd48 : Option Addr} {k048 : Option Value} {k148 : Option Value} {k248 : Option Value} {k348 : Option Value} {k548 : Option Value} {f50 : Addr} {oc50 : Value} {od50 : Option Addr} {an50 : Option Addr} {sl50 : Array (Option Value)} {kV50 : Value} {dc50 : Value} {pm50 : Value} {cd50 : Value} {ct50 : Value} {nm50 : Str} {qn50 : Str} {nn50 : Addr} {bs50 : List Value} {bm50 : List Value} {sb50 : List Value} {sn50 : List Str} {ab50 : Bool} {co50 : Option Bool} {dd50 : Option Addr} {k050 : Option Value} {k150 : Option Value} {k250 : Option Value} {k350 : Option Value} {k550 : Option Value} {f52 : Addr} {oc52 : Value} {od52 : Option Addr} {an52 : Option Addr} {sl52 : Array (Option Value)} {kV52 : Value} {dc52 : Value} {pm52 : Value} {cd52 : Value} {ct52 : Value} {nm52 : Str} {qn52 : Str} {nn52 : Addr} {bs52 : List Value} {bm52 : List Value} {sb52 : List Value} {sn52 : List Str} {ab52 : Bool} {co52 : Option Bool} {dd52 : Option Addr} {k052 : Option Value} {k152 : Option Value} {k252 : Option Value} {k352 : Option Value} {k552 : Option Value} {f54 : Addr} {oc54 : Value} {od54 : Option Addr} {an54 : Option Addr} {sl54 : Array (Option Value)} {kV54 : Value} {dc54 : Value} {pm54 : Value} {cd54 : Value} {ct54 : Value} {nm54 : Str} {qn54 : Str} {nn54 : Addr} {bs54 : List Value} {bm54 : List Value} {sb54 : List Value} {sn54 : List Str} {ab54 : Bool} {co54 : Option Bool} {dd54 : Option Addr} {k054 : Option Value} {k154 : Option Value} {k254 : Option Value} {k354 : Option Value} {k554 : Option Value} {f56 : Addr} {oc56 : Value} {od56 : Option Addr} {an56 : Option Addr} {sl56 : Array (Option Value)} {kV56 : Value} {dc56 : Value} {pm56 : Value} {cd56 : Value} {ct56 : Value} {nm56 : Str} {qn56 : Str} {nn56 : Addr} {bs56 : List Value} {bm56 : List Value} {sb56 : List Value} {sn56 : List Str} {ab56 : Bool} {co56 : Option Bool} {dd56 : Option Addr} {k056 : Option Value} {k156 : Option Value} {k256 : Option Value} {k356 : Option Value} {k556 : Option Value} {f58 : Addr} {oc58 : Value} {od58 : Option Addr} {an58 : Option Addr} {sl58 : Array (Option Value)} {kV58 : Value} {dc58 : Value} {pm58 : Value} {cd58 : Value} {ct58 : Value} {nm58 : Str} {qn58 : Str} {nn58 : Addr} {bs58 : List Value} {bm58 : List Value} {sb58 : List Value} {sn58 : List Str} {ab58 : Bool} {co58 : Option Bool} {dd58 : Option Addr} {k058 : Option Value} {k158 : Option Value} {k258 : Option Value} {k358 : Option Value} {k558 : Option Value} {f60 : Addr} {oc60 : Value} {od60 : Option Addr} {an60 : Option Addr} {sl60 : Array (Option Value)} {kV60 : Value} {dc60 : Value} {pm60 : Value} {cd60 : Value} {ct60 : Value} {nm60 : Str} {qn60 : Str} {nn60 : Addr} {bs60 : List Value} {bm60 : List Value} {sb60 : List Value} {sn60 : List Str} {ab60 : Bool} {co60 : Option Bool} {dd60 : Option Addr} {k060 : Option Value} {k160 : Option Value} {k260 : Option Value} {k360 : Option Value} {k560 : Option Value} {f62 : Addr} {oc62 : Value} {od62 : Option Addr} {an62 : Option Addr} {sl62 : Array (Option Value)} {kV62 : Value} {dc62 : Value} {pm62 : Value} {cd62 : Value} {ct62 : Value} {nm62 : Str} {qn62 : Str} {nn62 : Addr} {bs62 : List Value} {bm62 : List Value} {sb62 : List Value} {sn62 : List Str} {ab62 : Bool} {co62 : Option Bool} {dd62 : Option Addr} {k062 : Option Value} {k162 : Option Value} {k262 : Option Value} {k362 : Option Value} {k562 : Option Value} {f106 : Addr} {oc106 : Value} {od106 : Option Addr} {an106 : Option Addr} {sl106 : Array (Option Value)} {kV106 : Value} {dc106 : Value} {pm106 : Value} {cd106 : Value} {ct106 : Value} {f107 : Addr} {oc107 : Value} {od107 : Option Addr} {an107 : Option Addr} {sl107 : Array (Option Value)} {kV107 : Value} {dc107 : Value} {pm107 : Value} {cd107 : Value} {ct107 : Value} {f108 : Addr} {oc108 : Value} {od108 : Option Addr} {an108 : Option Addr} {sl108 : Array (Option Value)} {kV108 : Value} {dc108 : Value} {pm108 : Value} {cd108 : Value} {ct108 : Value} {f109 : Addr} {oc109 : Value} {od109 : Option Addr} {an109 : Option Addr} {sl109 : Array (Option Value)} {kV109 : Value} {dc109 : Value} {pm109 : Value} {cd109 : Value} {ct109 : Value} {f110 : Addr} {oc110 : Value} {od110 : Option Addr} {an110 : Option Addr} {sl110 : Array (Option Value)} {kV110 : Value} {dc110 : Value} {pm110 : Value} {cd110 : Value} {ct110 : Value} {f111 : Addr} {oc111 : Value} {od111 : Option Addr} {an111 : Option Addr} {sl111 : Array (Option Value)} {kV111 : Value} {dc111 : Value} {pm111 : Value} {cd111 : Value} {ct111 : Value} {f112 : Addr} {oc112 : Value} {od112 : Option Addr} {an112 : Option Addr} {sl112 : Array (Option Value)} {kV112 : Value} {dc112 : Value} {pm112 : Value} {cd112 : Value} {ct112 : Value} {f113 : Addr} {oc113 : Value} {od113 : Option Addr} {an113 : Option Addr} {sl113 : Array (Option Value)} {kV113 : Value} {dc113 : Value} {pm113 : Value} {cd113 : Value} {ct113 : Value} {f114 : Addr} {oc114 : Value} {od114 : Option Addr} {an114 : Option Addr} {sl114 : Array (Option Value)} {kV114 : Value} {dc114 : Value} {pm114 : Value} {cd114 : Value} {ct114 : Value} {f115 : Addr} {oc115 : Value} {od115 : Option Addr} {an115 : Option Addr} {sl115 : Array (Option Value)} {kV115 : Value} {dc115 : Value} {pm115 : Value} {cd115 : Value} {ct115 : Value} {f116 : Addr} {oc116 : Value} {od116 : Option Addr} {an116 : Option Addr} {sl116 : Array (Option Value)} {kV116 : Value} {dc116 : Value} {pm116 : Value} {cd116 : Value} {ct116 : Value} {f117 : Addr} {oc117 : Value} {od117 : Option Addr} {an117 : Option Addr} {sl117 : Array (Option Value)} {kV117 : Value} {dc117 : Value} {pm117 : Value} {cd117 : Value} {ct117 : Value} {f118 : Addr} {oc118 : Value} {od118 : Option Addr} {an118 : Option Addr} {sl118 : Array (Option Value)} {kV118 : Value} {dc118 : Value} {pm118 : Value} {cd118 : Value} {ct118 : Value} {f119 : Addr} {oc119 : Value} {od119 : Option Addr} {an119 : Option Addr} {sl119 : Array (Option Value)} {kV119 : Value} {dc119 : Value} {pm119 : Value} {cd119 : Value} {ct119 : Value} {f120 : Addr} {oc120 : Value} {od120 : Option Addr} {an120 : Option Addr} {sl120 : Array (Option Value)} {kV120 : Value} {dc120 : Value} {pm120 : Value} {cd120 : Value} {ct120 : Value} {f121 : Addr} {oc121 : Value} {od121 : Option Addr} {an121 : Option Addr} {sl121 : Array (Option Value)} {kV121 : Value} {dc121 : Value} {pm121 : Value} {cd121 : Value} {ct121 : Value} {f122 : Addr} {oc122 : Value} {od122 : Option Addr} {an122 : Option Addr} {sl122 : Array (Option Value)} {kV122 : Value} {dc122 : Value} {pm122 : Value} {cd122 : Value} {ct122 : Value} {f123 : Addr} {oc123 : Value} {od123 : Option Addr} {an123 : Option Addr} {sl123 : Array (Option Value)} {kV123 : Value} {dc123 : Value} {pm123 : Value} {cd123 : Value} {ct123 : Value} {f124 : Addr} {oc124 : Value} {od124 : Option Addr} {an124 : Option Addr} {sl124 : Array (Option Value)} {kV124 : Value} {dc124 : Value} {pm124 : Value} {cd124 : Value} {ct124 : Value} {f125 : Addr} {oc125 : Value} {od125 : Option Addr} {an125 : Option Addr} {sl125 : Array (Option Value)} {kV125 : Value} {dc125 : Value} {pm125 : Value} {cd125 : Value} {ct125 : Value} {f126 : Addr} {oc126 : Value} {od126 : Option Addr} {an126 : Option Addr} {sl126 : Array (Option Value)} {kV126 : Value} {dc126 : Value} {pm126 : Value} {cd126 : Value} {ct126 : Value} {f127 : Addr} {oc127 : Value} {od127 : Option Addr} {an127 : Option Addr} {sl127 : Array (Option Value)} {kV127 : Value} {dc127 : Value} {pm127 : Value} {cd127 : Value} {ct127 : Value} {f128 : Addr} {oc128 : Value} {od128 : Option Addr} {an128 : Option Addr} {sl128 : Array (Option Value)} {kV128 : Value} {dc128 : Value} {pm128 : Value} {cd128 : Value} {ct128 : Value} {f129 : Addr} {oc129 : Value} {od129 : Option Addr} {an129 : Option Addr} {sl129 : Array (Option Value)} {kV129 : Value} {dc129 : Value} {pm129 : Value} {cd129 : Value} {ct129 : Value} {f130 : Addr} {oc130 : Value} {od130 : Option Addr} {an130 : Option Addr} {sl130 : Array (Option Value)} {kV130 : Value} {dc130 : Value} {pm130 : Value} {cd130 : Value} {ct130 : Value} {f131 : Addr} {oc131 : Value} {od131 : Option Addr} {an131 : Option Addr} {sl131 : Array (Option Value)} {kV131 : Value} {dc131 : Value} {pm131 : Value} {cd131 : Value} {ct131 : Value} {f132 : Addr} {oc132 : Value} {od132 : Option Addr} {an132 : Option Addr} {sl132 : Array (Option Value)} {kV132 : Value} {dc132 : Value} {pm132 : Value} {cd132 : Value} {ct132 : Value} {f133 : Addr} {oc133 : Value} {od133 : Option Addr} {an133 : Option Addr} {sl133 : Array (Option Value)} {kV133 : Value} {dc133 : Value} {pm133 : Value} {cd133 : Value} {ct133 : Value} {f134 : Addr} {oc134 : Value} {od134 : Option Addr} {an134 : Option Addr} {sl134 : Array (Option Value)} {kV134 : Value} {dc134 : Value} {pm134 : Value} {cd134 : Value} {ct134 : Value} {f135 : Addr} {oc135 : Value} {od135 : Option Addr} {an135 : Option Addr} {sl135 : Array (Option Value)} {kV135 : Value} {dc135 : Value} {pm135 : Value} {cd135 : Value} {ct135 : Value} {f136 : Addr} {oc136 : Value} {od136 : Option Addr} {an136 : Option Addr} {sl136 : Array (Option Value)} {kV136 : Value} {dc136 : Value} {pm136 : Value} {cd136 : Value} {ct136 : Value} {f137 : Addr} {oc137 : Value} {od137 : Option Addr} {an137 : Option Addr} {sl137 : Array (Option Value)} {kV137 : Value} {dc137 : Value} {pm137 : Value} {cd137 : Value} {ct137 : Value} {f138 : Addr} {oc138 : Value} {od138 : Option Addr} {an138 : Option Addr} {sl138 : Array (Option Value)} {kV138 : Value} {dc138 : Value} {pm138 : Value} {cd138 : Value} {ct138 : Value} {f139 : Addr} {oc139 : Value} {od139 : Option Addr} {an139 : Option Addr} {sl139 : Array (Option Value)} {kV139 : Value} {dc139 : Value} {pm139 : Value} {cd139 : Value} {ct139 : Value} {f140 : Addr} {oc140 : Value} {od140 : Option Addr} {an140 : Option Addr} {sl140 : Array (Option Value)} {kV140 : Value} {dc140 : Value} {pm140 : Value} {cd140 : Value} {ct140 : Value} {f141 : Addr} {oc141 : Value} {od141 : Option Addr} {an141 : Option Addr} {sl141 : Array (Option Value)} {kV141 : Value} {dc141 : Value} {pm141 : Value} {cd141 : Value} {ct141 : Value} {f142 : Addr} {oc142 : Value} {od142 : Option Addr} {an142 : Option Addr} {sl142 : Array (Option Value)} {kV142 : Value} {dc142 : Value} {pm142 : Value} {cd142 : Value} {ct142 : Value} {f143 : Addr} {oc143 : Value} {od143 : Option Addr} {an143 : Option Addr} {sl143 : Array (Option Value)} {kV143 : Value} {dc143 : Value} {pm143 : Value} {cd143 : Value} {ct143 : Value} {f144 : Addr} {oc144 : Value} {od144 : Option Addr} {an144 : Option Addr} {sl144 : Array (Option Value)} {kV144 : Value} {dc144 : Value} {pm144 : Value} {cd144 : Value} {ct144 : Value} {f145 : Addr} {oc145 : Value} {od145 : Option Addr} {an145 : Option Addr} {sl145 : Array (Option Value)} {kV145 : Value} {dc145 : Value} {pm145 : Value} {cd145 : Value} {ct145 : Value} {f146 : Addr} {oc146 : Value} {od146 : Option Addr} {an146 : Option Addr} {sl146 : Array (Option Value)} {kV146 : Value} {dc146 : Value} {pm146 : Value} {cd146 : Value} {ct146 : Value} {f147 : Addr} {oc147 : Value} {od147 : Option Addr} {an147 : Option Addr} {sl147 : Array (Option Value)} {kV147 : Value} {dc147 : Value} {pm147 : Value} {ct147 : Value} {f148 : Addr} {oc148 : Value} {od148 : Option Addr} {an148 : Option Addr} {sl148 : Array (Option Value)} {kV148 : Value} {dc148 : Value} {pm148 : Value} {cd148 : Value} {ct148 : Value} {f149 : Addr} {oc149 : Value} {od149 : Option Addr} {an149 : Option Addr} {sl149 : Array (Option Value)} {kV149 : Value} {dc149 : Value} {pm149 : Value} {cd149 : Value} {ct149 : Value} {o150 : Obj} {vs150 : Array Value} {fi150 : Str} {tf150 : Tok} {fl150 : Int} {tg150 : Tok} {nf150 : Bool} {tx150 : Int} {tt150 : Tok}
    (h1 : PySem.W.nsIn K mainGlobals "isinstance" = some none)
    (h2 : PySem.W.nsIn K mainGlobals "str" = some none)
    (h3 : PySem.W.nsIn K mainGlobals "len" = some none)
    (h4 : PySem.W.nsIn K mainGlobals "all" = some none)
    (h5 : PySem.W.nsIn K mainGlobals "list" = some none)
    (h6 : PySem.W.nsIn K mainGlobals "sum" = some none)
    (h7 : PySem.W.nsIn K mainGlobals "max" = some none)
    (h8 : PySem.W.nsIn K mainGlobals "sorted" = some none)
    (h9 : PySem.W.nsIn K mainGlobals "set" = some none)
    (h10 : PySem.W.nsIn K mainGlobals "NotImplemented" = some none)
    (h11 : PySem.W.nsIn K mainGlobals "range" = some none)
    (h12 : PySem.W.nsIn K mainGlobals "int" = some none)
    (h13 : PySem.W.nsIn K mainGlobals "abs" = some none)
    (h14 : PySem.W.nsIn K mainGlobals "tuple" = some none)
    (h15 : PySem.W.nsIn K mainGlobals "zip" = some none)
    (h16 : PySem.W.nsIn K mainGlobals "dict" = some none)
    (h17 : PySem.W.nsIn K mainGlobals "bool" = some none)
    (h18 : PySem.W.nsIn K mainGlobals "repr" = some none)
    (h19 : PySem.W.nsIn K mainGlobals "ValueError" = some none)
    (h20 : PySem.W.nsIn K mainGlobals "LookupError" = some none)
    (h21 : PySem.W.nsIn K mainGlobals "LETTERS" = some (some (.str "abcdefghijklmnopqrstuvwxyz" t20)))
    (h22 : PySem.W.nsIn K mainGlobals "MOST_LETTERS" = some (some (.int 6 t21)))
    (h23 : PySem.W.nsIn K mainGlobals "MOST_DEPTH" = some (some (.int 20 t22)))
    (h24 : PySem.W.nsIn K mainGlobals "MOST_OPEN" = some (some (.int 20 t23)))
    (h25 : PySem.W.nsIn K mainGlobals "KINDS" = some (some (.ref z_KINDS)))
    (h26 : K.lookup z_KINDS = some ⟨.type "dict", none, .dict es25 n25, #[]⟩)
    (h27 : PySem.W.KeysLit z_pp (es25).toList)
    (h28 : PySem.W.nsIn K z_KINDS "&" = some (some (.str "pool" t26)))
    (h29 : PySem.W.nsIn K z_KINDS "|" = some (some (.str "common" t27)))
    (h30 : PySem.W.nsIn K mainGlobals "Circle" = some (some (.ref z_Circle)))
    (h31 : PySem.W.plainGet K z_Circle Str.empty = true)
    (h32 : PySem.W.hasDictIn K z_Circle = true)
    (h33 : PySem.W.plainOver K z_Circle = true)
    (h34 : PySem.W.findIn K (.ref z_Circle) "__setattr__" = some (some (.builtin "object.__setattr__")))
    (h35 : PySem.W.findIn K (.ref z_Circle) "__class__" = some (some (.builtin "object.__class__")))
    (h36 : PySem.W.specialIn K (.builtin "object.__class__") "__get__" = some (some (.builtin "getset_descriptor.__get__")))
    (h37 : PySem.W.takesIn K (.builtin "object.__class__") = some true)
    (h38 : PySem.W.mroIn K z_Circle (.type "object") = some true)
    (h39 : PySem.W.subIn K (.ref z_Circle) (.type "str") = some false)
    (h40 : PySem.W.subIn K (.ref z_Circle) (.type "int") = some false)
    (h41 : PySem.W.subIn K (.ref z_Circle) (.type "bool") = some false)
    (h42 : PySem.W.subIn K (.ref z_Circle) (.type "list") = some false)
    (h43 : PySem.W.subIn K (.ref z_Circle) (.type "tuple") = some false)
    (h44 : PySem.W.subIn K (.ref z_Circle) (.type "dict") = some false)
    (h45 : PySem.W.selfFirst K z_Circle = true)
    (h46 : PySem.W.findIn K (.ref z_Circle) "kind" = some none)
    (h47 : PySem.W.findIn K (.ref z_Circle) "name" = some none)
    (h48 : PySem.W.findIn K (.ref z_Circle) "_parts" = some none)
    (h49 : PySem.W.findIn K (.ref z_Circle) "size" = some none)
    (h50 : PySem.W.findIn K (.ref z_Circle) "depth" = some none)
    (h51 : PySem.W.findIn K (.ref z_Circle) "_text" = some none)
    (h52 : PySem.W.readsIn K z_Circle (.type "type") = true)
    (h53 : PySem.W.specialIn K (.ref z_Circle) "__getattribute__" = some (some (.builtin "type.__getattribute__")))
    (h54 : PySem.W.findCls K (.ref z_Circle) (.type "type") "LIMIT" = some (.val (.int 60 t38)))
    (h55 : PySem.W.findIn K (.ref z_Circle) "LIMIT" = some (some (.int 60 t39)))
    (h56 : PySem.W.specialIn K (.int 60 t39) "__get__" = some none)
    (h57 : PySem.W.makesIn K z_Circle = true)
    (h58 : PySem.W.keepIn K (.ref z_Circle) = true)
    (h59 : PySem.W.findIn K (.ref z_Circle) "__init__" = some (some (.ref f40)))
    (h60 : PySem.W.isFn K (.ref f40) = true)
    (h61 : K.lookup f40 = some ⟨oc40, od40, .func (PySem.W.fnOf "__init__" "Circle.__init__" (defArgs s_Circle___init) (defBody s_Circle___init) (defScope s_Circle___init) .none kV40 dc40 pm40 an40 cd40 ct40), sl40⟩)
    (h62 : PySem.W.codeIn K cd40 "Circle.__init__" = true)
    (h63 : PySem.W.keepIn K (.ref f40) = true)
    (h64 : PySem.W.findIn K (.ref z_Circle) "parts" = some (some (.ref f41)))
    (h65 : PySem.W.isFn K (.ref f41) = true)
    (h66 : K.lookup f41 = some ⟨oc41, od41, .func (PySem.W.fnOf "parts" "Circle.parts" (defArgs s_Circle_parts) (defBody s_Circle_parts) (defScope s_Circle_parts) .none kV41 dc41 pm41 an41 cd41 ct41), sl41⟩)
    (h67 : PySem.W.codeIn K cd41 "Circle.parts" = true)
    (h68 : PySem.W.keepIn K (.ref f41) = true)
    (h69 : PySem.W.findIn K (.ref z_Circle) "eyes" = some (some (.ref f42)))
    (h70 : PySem.W.isFn K (.ref f42) = true)
    (h71 : K.lookup f42 = some ⟨oc42, od42, .func (PySem.W.fnOf "eyes" "Circle.eyes" (defArgs s_Circle_eyes) (defBody s_Circle_eyes) (defScope s_Circle_eyes) .none kV42 dc42 pm42 an42 cd42 ct42), sl42⟩)
    (h72 : PySem.W.codeIn K cd42 "Circle.eyes" = true)
    (h73 : PySem.W.keepIn K (.ref f42) = true)
    (h74 : PySem.W.findIn K (.ref z_Circle) "__str__" = some (some (.ref f43)))
    (h75 : PySem.W.isFn K (.ref f43) = true)
    (h76 : K.lookup f43 = some ⟨oc43, od43, .func (PySem.W.fnOf "__str__" "Circle.__str__" (defArgs s_Circle___str) (defBody s_Circle___str) (defScope s_Circle___str) .none kV43 dc43 pm43 an43 cd43 ct43), sl43⟩)
    (h77 : PySem.W.codeIn K cd43 "Circle.__str__" = true)
    (h78 : PySem.W.keepIn K (.ref f43) = true)
    (h79 : PySem.W.findIn K (.ref z_Circle) "__repr__" = some (some (.ref f44)))
    (h80 : PySem.W.isFn K (.ref f44) = true)
    (h81 : K.lookup f44 = some ⟨oc44, od44, .func (PySem.W.fnOf "__repr__" "Circle.__repr__" (defArgs s_Circle___repr) (defBody s_Circle___repr) (defScope s_Circle___repr) .none kV44 dc44 pm44 an44 cd44 ct44), sl44⟩)
    (h82 : PySem.W.codeIn K cd44 "Circle.__repr__" = true)
    (h83 : PySem.W.keepIn K (.ref f44) = true)
    (h84 : PySem.W.findIn K (.ref z_Circle) "__eq__" = some (some (.ref f45)))
    (h85 : PySem.W.isFn K (.ref f45) = true)
    (h86 : K.lookup f45 = some ⟨oc45, od45, .func (PySem.W.fnOf "__eq__" "Circle.__eq__" (defArgs s_Circle___eq) (defBody s_Circle___eq) (defScope s_Circle___eq) .none kV45 dc45 pm45 an45 cd45 ct45), sl45⟩)
    (h87 : PySem.W.codeIn K cd45 "Circle.__eq__" = true)
    (h88 : PySem.W.keepIn K (.ref f45) = true)
    (h89 : PySem.W.findIn K (.ref z_Circle) "__and__" = some (some (.ref f46)))
    (h90 : PySem.W.isFn K (.ref f46) = true)
    (h91 : K.lookup f46 = some ⟨oc46, od46, .func (PySem.W.fnOf "__and__" "Circle.__and__" (defArgs s_Circle___and) (defBody s_Circle___and) (defScope s_Circle___and) .none kV46 dc46 pm46 an46 cd46 ct46), sl46⟩)
    (h92 : PySem.W.codeIn K cd46 "Circle.__and__" = true)
    (h93 : PySem.W.keepIn K (.ref f46) = true)
    (h94 : PySem.W.findIn K (.ref z_Circle) "__or__" = some (some (.ref f47)))
    (h95 : PySem.W.isFn K (.ref f47) = true)
    (h96 : K.lookup f47 = some ⟨oc47, od47, .func (PySem.W.fnOf "__or__" "Circle.__or__" (defArgs s_Circle___or) (defBody s_Circle___or) (defScope s_Circle___or) .none kV47 dc47 pm47 an47 cd47 ct47), sl47⟩)
    (h97 : PySem.W.codeIn K cd47 "Circle.__or__" = true)
    (h98 : PySem.W.keepIn K (.ref f47) = true)
    (h99 : PySem.W.nsIn K mainGlobals "InvalidName" = some (some (.ref z_InvalidName)))
    (h100 : K.lookup z_InvalidName = some (excClassObj nm48 qn48 z_InvalidName nn48 bs48 bm48 true sn48 sb48 ab48 co48 dd48 k048 k148 k248 k348 k548 "ValueError.__new__"))
    (h101 : PySem.HandSPX.refsVE bm48 = true)
    (h102 : PySem.W.findIn K (.ref z_InvalidName) "__setattr__" = some (some (.builtin "object.__setattr__")))
    (h103 : PySem.W.subIn K (.ref z_InvalidName) (.type "BaseException") = some true)
    (h104 : PySem.W.typeIn K (.ref z_InvalidName) = some (.type "type"))
    (h105 : PySem.W.keepIn K (.ref z_InvalidName) = true)
    (h106 : xfB K z_InvalidName = true)
    (h107 : PySem.W.findIn K (.ref z_InvalidName) "__init__" = some (some (.ref f48)))
    (h108 : PySem.W.typeIn K (.ref f48) = some (.type "function"))
    (h109 : K.lookup f48 = some ⟨oc48, od48, .func (PySem.W.fnOf "__init__" "InvalidName.__init__" (defArgs s_InvalidName___init) (defBody s_InvalidName___init) (defScope s_InvalidName___init) .none kV48 dc48 pm48 an48 cd48 ct48), sl48⟩)
    (h110 : PySem.W.codeIn K cd48 "InvalidName.__init__" = true)
    (h111 : PySem.W.keepIn K (.ref f48) = true)
    (h112 : PySem.W.findIn K (.ref z_InvalidName) "value" = some none)
    (h113 : PySem.W.nsIn K mainGlobals "InvalidNumber" = some (some (.ref z_InvalidNumber)))
    (h114 : K.lookup z_InvalidNumber = some (excClassObj nm50 qn50 z_InvalidNumber nn50 bs50 bm50 true sn50 sb50 ab50 co50 dd50 k050 k150 k250 k350 k550 "ValueError.__new__"))
    (h115 : PySem.HandSPX.refsVE bm50 = true)
    (h116 : PySem.W.findIn K (.ref z_InvalidNumber) "__setattr__" = some (some (.builtin "object.__setattr__")))
    (h117 : PySem.W.subIn K (.ref z_InvalidNumber) (.type "BaseException") = some true)
    (h118 : PySem.W.typeIn K (.ref z_InvalidNumber) = some (.type "type"))
    (h119 : PySem.W.keepIn K (.ref z_InvalidNumber) = true)
    (h120 : xfB K z_InvalidNumber = true)
    (h121 : PySem.W.findIn K (.ref z_InvalidNumber) "__init__" = some (some (.ref f50)))
    (h122 : PySem.W.typeIn K (.ref f50) = some (.type "function"))
    (h123 : K.lookup f50 = some ⟨oc50, od50, .func (PySem.W.fnOf "__init__" "InvalidNumber.__init__" (defArgs s_InvalidNumber___init) (defBody s_InvalidNumber___init) (defScope s_InvalidNumber___init) .none kV50 dc50 pm50 an50 cd50 ct50), sl50⟩)
    (h124 : PySem.W.codeIn K cd50 "InvalidNumber.__init__" = true)
    (h125 : PySem.W.keepIn K (.ref f50) = true)
    (h126 : PySem.W.findIn K (.ref z_InvalidNumber) "value" = some none)
    (h127 : PySem.W.nsIn K mainGlobals "InvalidText" = some (some (.ref z_InvalidText)))
    (h128 : K.lookup z_InvalidText = some (excClassObj nm52 qn52 z_InvalidText nn52 bs52 bm52 true sn52 sb52 ab52 co52 dd52 k052 k152 k252 k352 k552 "ValueError.__new__"))
    (h129 : PySem.HandSPX.refsVE bm52 = true)
    (h130 : PySem.W.findIn K (.ref z_InvalidText) "__setattr__" = some (some (.builtin "object.__setattr__")))
    (h131 : PySem.W.subIn K (.ref z_InvalidText) (.type "BaseException") = some true)
    (h132 : PySem.W.typeIn K (.ref z_InvalidText) = some (.type "type"))
    (h133 : PySem.W.keepIn K (.ref z_InvalidText) = true)
    (h134 : xfB K z_InvalidText = true)
    (h135 : PySem.W.findIn K (.ref z_InvalidText) "__init__" = some (some (.ref f52)))
    (h136 : PySem.W.typeIn K (.ref f52) = some (.type "function"))
    (h137 : K.lookup f52 = some ⟨oc52, od52, .func (PySem.W.fnOf "__init__" "InvalidText.__init__" (defArgs s_InvalidText___init) (defBody s_InvalidText___init) (defScope s_InvalidText___init) .none kV52 dc52 pm52 an52 cd52 ct52), sl52⟩)
    (h138 : PySem.W.codeIn K cd52 "InvalidText.__init__" = true)
    (h139 : PySem.W.keepIn K (.ref f52) = true)
    (h140 : PySem.W.findIn K (.ref z_InvalidText) "at" = some none)
    (h141 : PySem.W.nsIn K mainGlobals "InvalidCircle" = some (some (.ref z_InvalidCircle)))
    (h142 : K.lookup z_InvalidCircle = some (excClassObj nm54 qn54 z_InvalidCircle nn54 bs54 bm54 true sn54 sb54 ab54 co54 dd54 k054 k154 k254 k354 k554 "ValueError.__new__"))
    (h143 : PySem.HandSPX.refsVE bm54 = true)
    (h144 : PySem.W.findIn K (.ref z_InvalidCircle) "__setattr__" = some (some (.builtin "object.__setattr__")))
    (h145 : PySem.W.subIn K (.ref z_InvalidCircle) (.type "BaseException") = some true)
    (h146 : PySem.W.typeIn K (.ref z_InvalidCircle) = some (.type "type"))
    (h147 : PySem.W.keepIn K (.ref z_InvalidCircle) = true)
    (h148 : xfB K z_InvalidCircle = true)
    (h149 : PySem.W.findIn K (.ref z_InvalidCircle) "__init__" = some (some (.ref f54)))
    (h150 : PySem.W.typeIn K (.ref f54) = some (.type "function"))
    (h151 : K.lookup f54 = some ⟨oc54, od54, .func (PySem.W.fnOf "__init__" "InvalidCircle.__init__" (defArgs s_InvalidCircle___init) (defBody s_InvalidCircle___init) (defScope s_InvalidCircle___init) .none kV54 dc54 pm54 an54 cd54 ct54), sl54⟩)
    (h152 : PySem.W.codeIn K cd54 "InvalidCircle.__init__" = true)
    (h153 : PySem.W.keepIn K (.ref f54) = true)
    (h154 : PySem.W.findIn K (.ref z_InvalidCircle) "at" = some none)
    (h155 : PySem.W.nsIn K mainGlobals "InvalidTie" = some (some (.ref z_InvalidTie)))
    (h156 : K.lookup z_InvalidTie = some (excClassObj nm56 qn56 z_InvalidTie nn56 bs56 bm56 true sn56 sb56 ab56 co56 dd56 k056 k156 k256 k356 k556 "ValueError.__new__"))
    (h157 : PySem.HandSPX.refsVE bm56 = true)
    (h158 : PySem.W.findIn K (.ref z_InvalidTie) "__setattr__" = some (some (.builtin "object.__setattr__")))
    (h159 : PySem.W.subIn K (.ref z_InvalidTie) (.type "BaseException") = some true)
    (h160 : PySem.W.typeIn K (.ref z_InvalidTie) = some (.type "type"))
    (h161 : PySem.W.keepIn K (.ref z_InvalidTie) = true)
    (h162 : xfB K z_InvalidTie = true)
    (h163 : PySem.W.findIn K (.ref z_InvalidTie) "__init__" = some (some (.ref f56)))
    (h164 : PySem.W.typeIn K (.ref f56) = some (.type "function"))
    (h165 : K.lookup f56 = some ⟨oc56, od56, .func (PySem.W.fnOf "__init__" "InvalidTie.__init__" (defArgs s_InvalidTie___init) (defBody s_InvalidTie___init) (defScope s_InvalidTie___init) .none kV56 dc56 pm56 an56 cd56 ct56), sl56⟩)
    (h166 : PySem.W.codeIn K cd56 "InvalidTie.__init__" = true)
    (h167 : PySem.W.keepIn K (.ref f56) = true)
    (h168 : PySem.W.findIn K (.ref z_InvalidTie) "at" = some none)
    (h169 : PySem.W.nsIn K mainGlobals "InvalidParting" = some (some (.ref z_InvalidParting)))
    (h170 : K.lookup z_InvalidParting = some (excClassObj nm58 qn58 z_InvalidParting nn58 bs58 bm58 true sn58 sb58 ab58 co58 dd58 k058 k158 k258 k358 k558 "ValueError.__new__"))
    (h171 : PySem.HandSPX.refsVE bm58 = true)
    (h172 : PySem.W.findIn K (.ref z_InvalidParting) "__setattr__" = some (some (.builtin "object.__setattr__")))
    (h173 : PySem.W.subIn K (.ref z_InvalidParting) (.type "BaseException") = some true)
    (h174 : PySem.W.typeIn K (.ref z_InvalidParting) = some (.type "type"))
    (h175 : PySem.W.keepIn K (.ref z_InvalidParting) = true)
    (h176 : xfB K z_InvalidParting = true)
    (h177 : PySem.W.findIn K (.ref z_InvalidParting) "__init__" = some (some (.ref f58)))
    (h178 : PySem.W.typeIn K (.ref f58) = some (.type "function"))
    (h179 : K.lookup f58 = some ⟨oc58, od58, .func (PySem.W.fnOf "__init__" "InvalidParting.__init__" (defArgs s_InvalidParting___init) (defBody s_InvalidParting___init) (defScope s_InvalidParting___init) .none kV58 dc58 pm58 an58 cd58 ct58), sl58⟩)
    (h180 : PySem.W.codeIn K cd58 "InvalidParting.__init__" = true)
    (h181 : PySem.W.keepIn K (.ref f58) = true)
    (h182 : PySem.W.findIn K (.ref z_InvalidParting) "value" = some none)
    (h183 : PySem.W.nsIn K mainGlobals "InvalidCase" = some (some (.ref z_InvalidCase)))
    (h184 : K.lookup z_InvalidCase = some (excClassObj nm60 qn60 z_InvalidCase nn60 bs60 bm60 true sn60 sb60 ab60 co60 dd60 k060 k160 k260 k360 k560 "ValueError.__new__"))
    (h185 : PySem.HandSPX.refsVE bm60 = true)
    (h186 : PySem.W.findIn K (.ref z_InvalidCase) "__setattr__" = some (some (.builtin "object.__setattr__")))
    (h187 : PySem.W.subIn K (.ref z_InvalidCase) (.type "BaseException") = some true)
    (h188 : PySem.W.typeIn K (.ref z_InvalidCase) = some (.type "type"))
    (h189 : PySem.W.keepIn K (.ref z_InvalidCase) = true)
    (h190 : xfB K z_InvalidCase = true)
    (h191 : PySem.W.findIn K (.ref z_InvalidCase) "__init__" = some (some (.ref f60)))
    (h192 : PySem.W.typeIn K (.ref f60) = some (.type "function"))
    (h193 : K.lookup f60 = some ⟨oc60, od60, .func (PySem.W.fnOf "__init__" "InvalidCase.__init__" (defArgs s_InvalidCase___init) (defBody s_InvalidCase___init) (defScope s_InvalidCase___init) .none kV60 dc60 pm60 an60 cd60 ct60), sl60⟩)
    (h194 : PySem.W.codeIn K cd60 "InvalidCase.__init__" = true)
    (h195 : PySem.W.keepIn K (.ref f60) = true)
    (h196 : PySem.W.findIn K (.ref z_InvalidCase) "value" = some none)
    (h197 : PySem.W.nsIn K mainGlobals "TooMany" = some (some (.ref z_TooMany)))
    (h198 : K.lookup z_TooMany = some (excClassObj nm62 qn62 z_TooMany nn62 bs62 bm62 true sn62 sb62 ab62 co62 dd62 k062 k162 k262 k362 k562 "ValueError.__new__"))
    (h199 : PySem.HandSPX.refsVE bm62 = true)
    (h200 : PySem.W.findIn K (.ref z_TooMany) "__setattr__" = some (some (.builtin "object.__setattr__")))
    (h201 : PySem.W.subIn K (.ref z_TooMany) (.type "BaseException") = some true)
    (h202 : PySem.W.typeIn K (.ref z_TooMany) = some (.type "type"))
    (h203 : PySem.W.keepIn K (.ref z_TooMany) = true)
    (h204 : xfB K z_TooMany = true)
    (h205 : PySem.W.findIn K (.ref z_TooMany) "__init__" = some (some (.ref f62)))
    (h206 : PySem.W.typeIn K (.ref f62) = some (.type "function"))
    (h207 : K.lookup f62 = some ⟨oc62, od62, .func (PySem.W.fnOf "__init__" "TooMany.__init__" (defArgs s_TooMany___init) (defBody s_TooMany___init) (defScope s_TooMany___init) .none kV62 dc62 pm62 an62 cd62 ct62), sl62⟩)
    (h208 : PySem.W.codeIn K cd62 "TooMany.__init__" = true)
    (h209 : PySem.W.keepIn K (.ref f62) = true)
    (h210 : PySem.W.findIn K (.ref z_TooMany) "what" = some none)
    (h211 : PySem.W.findIn K (.ref z_TooMany) "most" = some none)
    (h212 : PySem.W.exmOne K (.ref z_InvalidName) (.ref z_InvalidName) = some true)
    (h213 : PySem.W.exmOne K (.ref z_InvalidCircle) (.ref z_InvalidName) = some false)
    (h214 : PySem.W.exmOne K (.ref z_InvalidCircle) (.ref z_InvalidNumber) = some false)
    (h215 : PySem.W.exmOne K (.ref z_InvalidCircle) (.ref z_InvalidText) = some false)
    (h216 : PySem.W.exmOne K (.ref z_InvalidCircle) (.ref z_InvalidCircle) = some true)
    (h217 : PySem.W.exmOne K (.ref z_InvalidNumber) (.ref z_InvalidName) = some false)
    (h218 : PySem.W.exmOne K (.ref z_InvalidNumber) (.ref z_InvalidNumber) = some true)
    (h219 : PySem.W.exmOne K (.ref z_InvalidTie) (.ref z_InvalidName) = some false)
    (h220 : PySem.W.exmOne K (.ref z_InvalidTie) (.ref z_InvalidNumber) = some false)
    (h221 : PySem.W.exmOne K (.ref z_InvalidTie) (.ref z_InvalidText) = some false)
    (h222 : PySem.W.exmOne K (.ref z_InvalidTie) (.ref z_InvalidCircle) = some false)
    (h223 : PySem.W.exmOne K (.ref z_InvalidTie) (.ref z_InvalidTie) = some true)
    (h224 : PySem.W.exmOne K (.ref z_InvalidParting) (.ref z_InvalidName) = some false)
    (h225 : PySem.W.exmOne K (.ref z_InvalidParting) (.ref z_InvalidNumber) = some false)
    (h226 : PySem.W.exmOne K (.ref z_InvalidParting) (.ref z_InvalidText) = some false)
    (h227 : PySem.W.exmOne K (.ref z_InvalidParting) (.ref z_InvalidCircle) = some false)
    (h228 : PySem.W.exmOne K (.ref z_InvalidParting) (.ref z_InvalidTie) = some false)
    (h229 : PySem.W.exmOne K (.ref z_InvalidParting) (.ref z_InvalidParting) = some true)
    (h230 : PySem.W.exmOne K (.ref z_TooMany) (.ref z_InvalidName) = some false)
    (h231 : PySem.W.exmOne K (.ref z_TooMany) (.ref z_InvalidNumber) = some false)
    (h232 : PySem.W.exmOne K (.ref z_TooMany) (.ref z_InvalidText) = some false)
    (h233 : PySem.W.exmOne K (.ref z_TooMany) (.ref z_InvalidCircle) = some false)
    (h234 : PySem.W.exmOne K (.ref z_TooMany) (.ref z_InvalidTie) = some false)
    (h235 : PySem.W.exmOne K (.ref z_TooMany) (.ref z_InvalidParting) = some false)
    (h236 : PySem.W.exmOne K (.ref z_TooMany) (.ref z_InvalidCase) = some false)
    (h237 : PySem.W.exmOne K (.ref z_TooMany) (.ref z_TooMany) = some true)
    (h238 : PySem.W.exmOne K (.ref z_InvalidText) (.ref z_InvalidName) = some false)
    (h239 : PySem.W.exmOne K (.ref z_InvalidText) (.ref z_InvalidNumber) = some false)
    (h240 : PySem.W.exmOne K (.ref z_InvalidText) (.ref z_InvalidText) = some true)
    (h241 : PySem.W.exmOne K (.ref z_InvalidText) (.ref z_TooMany) = some false)
    (h242 : PySem.W.kitOne K (.type "NoneType") (.ref z_Circle) = some false)
    (h243 : PySem.W.kitOne K (.type "bool") (.ref z_Circle) = some false)
    (h244 : PySem.W.kitOne K (.type "int") (.ref z_Circle) = some false)
    (h245 : PySem.W.kitOne K (.type "list") (.ref z_Circle) = some false)
    (h246 : PySem.W.kitOne K (.type "str") (.ref z_Circle) = some false)
    (h247 : PySem.W.kitOne K (.type "tuple") (.ref z_Circle) = some false)
    (h248 : PySem.W.findIn K (.ref z_Circle) "__bool__" = some none)
    (h249 : PySem.W.notFirst K z_Circle (.type "list") = true)
    (h250 : PySem.W.notFirst K z_Circle (.type "tuple") = true)
    (h251 : PySem.W.notFirst K z_Circle (.type "str") = true)
    (h252 : PySem.W.findIn K (.ref z_Circle) "__len__" = some none)
    (h253 : PySem.W.nsIn K mainGlobals "is_name" = some (some (.ref f106)))
    (h254 : K.lookup f106 = some ⟨oc106, od106, .func (PySem.W.fnOf "is_name" "is_name" (defArgs s_is_name) (defBody s_is_name) (defScope s_is_name) .none kV106 dc106 pm106 an106 cd106 ct106), sl106⟩)
    (h255 : PySem.W.codeIn K cd106 "is_name" = true)
    (h256 : PySem.W.keepIn K (.ref f106) = true)
    (h257 : PySem.W.nsIn K mainGlobals "without_repeats" = some (some (.ref f107)))
    (h258 : K.lookup f107 = some ⟨oc107, od107, .func (PySem.W.fnOf "without_repeats" "without_repeats" (defArgs s_without_repeats) (defBody s_without_repeats) (defScope s_without_repeats) .none kV107 dc107 pm107 an107 cd107 ct107), sl107⟩)
    (h259 : PySem.W.codeIn K cd107 "without_repeats" = true)
    (h260 : PySem.W.keepIn K (.ref f107) = true)
    (h261 : PySem.W.nsIn K mainGlobals "flattened" = some (some (.ref f108)))
    (h262 : K.lookup f108 = some ⟨oc108, od108, .func (PySem.W.fnOf "flattened" "flattened" (defArgs s_flattened) (defBody s_flattened) (defScope s_flattened) .none kV108 dc108 pm108 an108 cd108 ct108), sl108⟩)
    (h263 : PySem.W.codeIn K cd108 "flattened" = true)
    (h264 : PySem.W.keepIn K (.ref f108) = true)
    (h265 : PySem.W.nsIn K mainGlobals "size_of" = some (some (.ref f109)))
    (h266 : K.lookup f109 = some ⟨oc109, od109, .func (PySem.W.fnOf "size_of" "size_of" (defArgs s_size_of) (defBody s_size_of) (defScope s_size_of) .none kV109 dc109 pm109 an109 cd109 ct109), sl109⟩)
    (h267 : PySem.W.codeIn K cd109 "size_of" = true)
    (h268 : PySem.W.keepIn K (.ref f109) = true)
    (h269 : PySem.W.nsIn K mainGlobals "depth_over" = some (some (.ref f110)))
    (h270 : K.lookup f110 = some ⟨oc110, od110, .func (PySem.W.fnOf "depth_over" "depth_over" (defArgs s_depth_over) (defBody s_depth_over) (defScope s_depth_over) .none kV110 dc110 pm110 an110 cd110 ct110), sl110⟩)
    (h271 : PySem.W.codeIn K cd110 "depth_over" = true)
    (h272 : PySem.W.keepIn K (.ref f110) = true)
    (h273 : PySem.W.nsIn K mainGlobals "inner_text" = some (some (.ref f111)))
    (h274 : K.lookup f111 = some ⟨oc111, od111, .func (PySem.W.fnOf "inner_text" "inner_text" (defArgs s_inner_text) (defBody s_inner_text) (defScope s_inner_text) .none kV111 dc111 pm111 an111 cd111 ct111), sl111⟩)
    (h275 : PySem.W.codeIn K cd111 "inner_text" = true)
    (h276 : PySem.W.keepIn K (.ref f111) = true)
    (h277 : PySem.W.nsIn K mainGlobals "text_of" = some (some (.ref f112)))
    (h278 : K.lookup f112 = some ⟨oc112, od112, .func (PySem.W.fnOf "text_of" "text_of" (defArgs s_text_of) (defBody s_text_of) (defScope s_text_of) .none kV112 dc112 pm112 an112 cd112 ct112), sl112⟩)
    (h279 : PySem.W.codeIn K cd112 "text_of" = true)
    (h280 : PySem.W.keepIn K (.ref f112) = true)
    (h281 : PySem.W.nsIn K mainGlobals "eye" = some (some (.ref f113)))
    (h282 : K.lookup f113 = some ⟨oc113, od113, .func (PySem.W.fnOf "eye" "eye" (defArgs s_eye) (defBody s_eye) (defScope s_eye) .none kV113 dc113 pm113 an113 cd113 ct113), sl113⟩)
    (h283 : PySem.W.codeIn K cd113 "eye" = true)
    (h284 : PySem.W.keepIn K (.ref f113) = true)
    (h285 : PySem.W.nsIn K mainGlobals "built" = some (some (.ref f114)))
    (h286 : K.lookup f114 = some ⟨oc114, od114, .func (PySem.W.fnOf "built" "built" (defArgs s_built) (defBody s_built) (defScope s_built) .none kV114 dc114 pm114 an114 cd114 ct114), sl114⟩)
    (h287 : PySem.W.codeIn K cd114 "built" = true)
    (h288 : PySem.W.keepIn K (.ref f114) = true)
    (h289 : PySem.W.nsIn K mainGlobals "read_circle" = some (some (.ref f115)))
    (h290 : K.lookup f115 = some ⟨oc115, od115, .func (PySem.W.fnOf "read_circle" "read_circle" (defArgs s_read_circle) (defBody s_read_circle) (defScope s_read_circle) .none kV115 dc115 pm115 an115 cd115 ct115), sl115⟩)
    (h291 : PySem.W.codeIn K cd115 "read_circle" = true)
    (h292 : PySem.W.keepIn K (.ref f115) = true)
    (h293 : PySem.W.nsIn K mainGlobals "is_circle_text" = some (some (.ref f116)))
    (h294 : K.lookup f116 = some ⟨oc116, od116, .func (PySem.W.fnOf "is_circle_text" "is_circle_text" (defArgs s_is_circle_text) (defBody s_is_circle_text) (defScope s_is_circle_text) .none kV116 dc116 pm116 an116 cd116 ct116), sl116⟩)
    (h295 : PySem.W.codeIn K cd116 "is_circle_text" = true)
    (h296 : PySem.W.keepIn K (.ref f116) = true)
    (h297 : PySem.W.nsIn K mainGlobals "read_row" = some (some (.ref f117)))
    (h298 : K.lookup f117 = some ⟨oc117, od117, .func (PySem.W.fnOf "read_row" "read_row" (defArgs s_read_row) (defBody s_read_row) (defScope s_read_row) .none kV117 dc117 pm117 an117 cd117 ct117), sl117⟩)
    (h299 : PySem.W.codeIn K cd117 "read_row" = true)
    (h300 : PySem.W.keepIn K (.ref f117) = true)
    (h301 : PySem.W.nsIn K mainGlobals "read_item" = some (some (.ref f118)))
    (h302 : K.lookup f118 = some ⟨oc118, od118, .func (PySem.W.fnOf "read_item" "read_item" (defArgs s_read_item) (defBody s_read_item) (defScope s_read_item) .none kV118 dc118 pm118 an118 cd118 ct118), sl118⟩)
    (h303 : PySem.W.codeIn K cd118 "read_item" = true)
    (h304 : PySem.W.keepIn K (.ref f118) = true)
    (h305 : PySem.W.nsIn K mainGlobals "name_at" = some (some (.ref f119)))
    (h306 : K.lookup f119 = some ⟨oc119, od119, .func (PySem.W.fnOf "name_at" "name_at" (defArgs s_name_at) (defBody s_name_at) (defScope s_name_at) .none kV119 dc119 pm119 an119 cd119 ct119), sl119⟩)
    (h307 : PySem.W.codeIn K cd119 "name_at" = true)
    (h308 : PySem.W.keepIn K (.ref f119) = true)
    (h309 : PySem.W.nsIn K mainGlobals "read_sign" = some (some (.ref f120)))
    (h310 : K.lookup f120 = some ⟨oc120, od120, .func (PySem.W.fnOf "read_sign" "read_sign" (defArgs s_read_sign) (defBody s_read_sign) (defScope s_read_sign) .none kV120 dc120 pm120 an120 cd120 ct120), sl120⟩)
    (h311 : PySem.W.codeIn K cd120 "read_sign" = true)
    (h312 : PySem.W.keepIn K (.ref f120) = true)
    (h313 : PySem.W.nsIn K mainGlobals "check_sign" = some (some (.ref f121)))
    (h314 : K.lookup f121 = some ⟨oc121, od121, .func (PySem.W.fnOf "check_sign" "check_sign" (defArgs s_check_sign) (defBody s_check_sign) (defScope s_check_sign) .none kV121 dc121 pm121 an121 cd121 ct121), sl121⟩)
    (h315 : PySem.W.codeIn K cd121 "check_sign" = true)
    (h316 : PySem.W.keepIn K (.ref f121) = true)
    (h317 : PySem.W.nsIn K mainGlobals "grown" = some (some (.ref f122)))
    (h318 : K.lookup f122 = some ⟨oc122, od122, .func (PySem.W.fnOf "grown" "grown" (defArgs s_grown) (defBody s_grown) (defScope s_grown) .none kV122 dc122 pm122 an122 cd122 ct122), sl122⟩)
    (h319 : PySem.W.codeIn K cd122 "grown" = true)
    (h320 : PySem.W.keepIn K (.ref f122) = true)
    (h321 : PySem.W.nsIn K mainGlobals "_law_bag" = some (some (.ref f123)))
    (h322 : K.lookup f123 = some ⟨oc123, od123, .func (PySem.W.fnOf "_law_bag" "_law_bag" (defArgs s_law_bag) (defBody s_law_bag) (defScope s_law_bag) .none kV123 dc123 pm123 an123 cd123 ct123), sl123⟩)
    (h323 : PySem.W.codeIn K cd123 "_law_bag" = true)
    (h324 : PySem.W.keepIn K (.ref f123) = true)
    (h325 : PySem.W.nsIn K mainGlobals "_law_draw" = some (some (.ref f124)))
    (h326 : K.lookup f124 = some ⟨oc124, od124, .func (PySem.W.fnOf "_law_draw" "_law_draw" (defArgs s_law_draw) (defBody s_law_draw) (defScope s_law_draw) .none kV124 dc124 pm124 an124 cd124 ct124), sl124⟩)
    (h327 : PySem.W.codeIn K cd124 "_law_draw" = true)
    (h328 : PySem.W.keepIn K (.ref f124) = true)
    (h329 : PySem.W.nsIn K mainGlobals "_law_of" = some (some (.ref f125)))
    (h330 : K.lookup f125 = some ⟨oc125, od125, .func (PySem.W.fnOf "_law_of" "_law_of" (defArgs s_law_of) (defBody s_law_of) (defScope s_law_of) .none kV125 dc125 pm125 an125 cd125 ct125), sl125⟩)
    (h331 : PySem.W.codeIn K cd125 "_law_of" = true)
    (h332 : PySem.W.keepIn K (.ref f125) = true)
    (h333 : PySem.W.nsIn K mainGlobals "_law_same" = some (some (.ref f126)))
    (h334 : K.lookup f126 = some ⟨oc126, od126, .func (PySem.W.fnOf "_law_same" "_law_same" (defArgs s_law_same) (defBody s_law_same) (defScope s_law_same) .none kV126 dc126 pm126 an126 cd126 ct126), sl126⟩)
    (h335 : PySem.W.codeIn K cd126 "_law_same" = true)
    (h336 : PySem.W.keepIn K (.ref f126) = true)
    (h337 : PySem.W.nsIn K mainGlobals "_law_try" = some (some (.ref f127)))
    (h338 : K.lookup f127 = some ⟨oc127, od127, .func (PySem.W.fnOf "_law_try" "_law_try" (defArgs s_law_try) (defBody s_law_try) (defScope s_law_try) .none kV127 dc127 pm127 an127 cd127 ct127), sl127⟩)
    (h339 : PySem.W.codeIn K cd127 "_law_try" = true)
    (h340 : PySem.W.keepIn K (.ref f127) = true)
    (h341 : PySem.W.nsIn K mainGlobals "_law_title" = some (some (.ref f128)))
    (h342 : K.lookup f128 = some ⟨oc128, od128, .func (PySem.W.fnOf "_law_title" "_law_title" (defArgs s_law_title) (defBody s_law_title) (defScope s_law_title) .none kV128 dc128 pm128 an128 cd128 ct128), sl128⟩)
    (h343 : PySem.W.codeIn K cd128 "_law_title" = true)
    (h344 : PySem.W.keepIn K (.ref f128) = true)
    (h345 : PySem.W.nsIn K mainGlobals "_law_titles" = some (some (.ref f129)))
    (h346 : K.lookup f129 = some ⟨oc129, od129, .func (PySem.W.fnOf "_law_titles" "_law_titles" (defArgs s_law_titles) (defBody s_law_titles) (defScope s_law_titles) .none kV129 dc129 pm129 an129 cd129 ct129), sl129⟩)
    (h347 : PySem.W.codeIn K cd129 "_law_titles" = true)
    (h348 : PySem.W.keepIn K (.ref f129) = true)
    (h349 : PySem.W.nsIn K mainGlobals "_law_words" = some (some (.ref f130)))
    (h350 : K.lookup f130 = some ⟨oc130, od130, .func (PySem.W.fnOf "_law_words" "_law_words" (defArgs s_law_words) (defBody s_law_words) (defScope s_law_words) .none kV130 dc130 pm130 an130 cd130 ct130), sl130⟩)
    (h351 : PySem.W.codeIn K cd130 "_law_words" = true)
    (h352 : PySem.W.keepIn K (.ref f130) = true)
    (h353 : PySem.W.nsIn K mainGlobals "_law_size" = some (some (.ref f131)))
    (h354 : K.lookup f131 = some ⟨oc131, od131, .func (PySem.W.fnOf "_law_size" "_law_size" (defArgs s_law_size) (defBody s_law_size) (defScope s_law_size) .none kV131 dc131 pm131 an131 cd131 ct131), sl131⟩)
    (h355 : PySem.W.codeIn K cd131 "_law_size" = true)
    (h356 : PySem.W.keepIn K (.ref f131) = true)
    (h357 : PySem.W.nsIn K mainGlobals "_law_depth" = some (some (.ref f132)))
    (h358 : K.lookup f132 = some ⟨oc132, od132, .func (PySem.W.fnOf "_law_depth" "_law_depth" (defArgs s_law_depth) (defBody s_law_depth) (defScope s_law_depth) .none kV132 dc132 pm132 an132 cd132 ct132), sl132⟩)
    (h359 : PySem.W.codeIn K cd132 "_law_depth" = true)
    (h360 : PySem.W.keepIn K (.ref f132) = true)
    (h361 : PySem.W.nsIn K mainGlobals "_law_leaves" = some (some (.ref f133)))
    (h362 : K.lookup f133 = some ⟨oc133, od133, .func (PySem.W.fnOf "_law_leaves" "_law_leaves" (defArgs s_law_leaves) (defBody s_law_leaves) (defScope s_law_leaves) .none kV133 dc133 pm133 an133 cd133 ct133), sl133⟩)
    (h363 : PySem.W.codeIn K cd133 "_law_leaves" = true)
    (h364 : PySem.W.keepIn K (.ref f133) = true)
    (h365 : PySem.W.nsIn K mainGlobals "_law_join" = some (some (.ref f134)))
    (h366 : K.lookup f134 = some ⟨oc134, od134, .func (PySem.W.fnOf "_law_join" "_law_join" (defArgs s_law_join) (defBody s_law_join) (defScope s_law_join) .none kV134 dc134 pm134 an134 cd134 ct134), sl134⟩)
    (h367 : PySem.W.codeIn K cd134 "_law_join" = true)
    (h368 : PySem.W.keepIn K (.ref f134) = true)
    (h369 : PySem.W.nsIn K mainGlobals "_law_checked" = some (some (.ref f135)))
    (h370 : K.lookup f135 = some ⟨oc135, od135, .func (PySem.W.fnOf "_law_checked" "_law_checked" (defArgs s_law_checked) (defBody s_law_checked) (defScope s_law_checked) .none kV135 dc135 pm135 an135 cd135 ct135), sl135⟩)
    (h371 : PySem.W.codeIn K cd135 "_law_checked" = true)
    (h372 : PySem.W.keepIn K (.ref f135) = true)
    (h373 : PySem.W.nsIn K mainGlobals "_law_circle" = some (some (.ref f136)))
    (h374 : K.lookup f136 = some ⟨oc136, od136, .func (PySem.W.fnOf "_law_circle" "_law_circle" (defArgs s_law_circle) (defBody s_law_circle) (defScope s_law_circle) .none kV136 dc136 pm136 an136 cd136 ct136), sl136⟩)
    (h375 : PySem.W.codeIn K cd136 "_law_circle" = true)
    (h376 : PySem.W.keepIn K (.ref f136) = true)
    (h377 : PySem.W.nsIn K mainGlobals "_law_told_of" = some (some (.ref f137)))
    (h378 : K.lookup f137 = some ⟨oc137, od137, .func (PySem.W.fnOf "_law_told_of" "_law_told_of" (defArgs s_law_told_of) (defBody s_law_told_of) (defScope s_law_told_of) .none kV137 dc137 pm137 an137 cd137 ct137), sl137⟩)
    (h379 : PySem.W.codeIn K cd137 "_law_told_of" = true)
    (h380 : PySem.W.keepIn K (.ref f137) = true)
    (h381 : PySem.W.nsIn K mainGlobals "_law_due_of" = some (some (.ref f138)))
    (h382 : K.lookup f138 = some ⟨oc138, od138, .func (PySem.W.fnOf "_law_due_of" "_law_due_of" (defArgs s_law_due_of) (defBody s_law_due_of) (defScope s_law_due_of) .none kV138 dc138 pm138 an138 cd138 ct138), sl138⟩)
    (h383 : PySem.W.codeIn K cd138 "_law_due_of" = true)
    (h384 : PySem.W.keepIn K (.ref f138) = true)
    (h385 : PySem.W.nsIn K mainGlobals "_law_as" = some (some (.ref f139)))
    (h386 : K.lookup f139 = some ⟨oc139, od139, .func (PySem.W.fnOf "_law_as" "_law_as" (defArgs s_law_as) (defBody s_law_as) (defScope s_law_as) .none kV139 dc139 pm139 an139 cd139 ct139), sl139⟩)
    (h387 : PySem.W.codeIn K cd139 "_law_as" = true)
    (h388 : PySem.W.keepIn K (.ref f139) = true)
    (h389 : PySem.W.nsIn K mainGlobals "_law_odd" = some (some (.ref f140)))
    (h390 : K.lookup f140 = some ⟨oc140, od140, .func (PySem.W.fnOf "_law_odd" "_law_odd" (defArgs s_law_odd) (defBody s_law_odd) (defScope s_law_odd) .none kV140 dc140 pm140 an140 cd140 ct140), sl140⟩)
    (h391 : PySem.W.codeIn K cd140 "_law_odd" = true)
    (h392 : PySem.W.keepIn K (.ref f140) = true)
    (h393 : PySem.W.nsIn K mainGlobals "_law_raw" = some (some (.ref f141)))
    (h394 : K.lookup f141 = some ⟨oc141, od141, .func (PySem.W.fnOf "_law_raw" "_law_raw" (defArgs s_law_raw) (defBody s_law_raw) (defScope s_law_raw) .none kV141 dc141 pm141 an141 cd141 ct141), sl141⟩)
    (h395 : PySem.W.codeIn K cd141 "_law_raw" = true)
    (h396 : PySem.W.keepIn K (.ref f141) = true)
    (h397 : PySem.W.nsIn K mainGlobals "_law_loose" = some (some (.ref f142)))
    (h398 : K.lookup f142 = some ⟨oc142, od142, .func (PySem.W.fnOf "_law_loose" "_law_loose" (defArgs s_law_loose) (defBody s_law_loose) (defScope s_law_loose) .none kV142 dc142 pm142 an142 cd142 ct142), sl142⟩)
    (h399 : PySem.W.codeIn K cd142 "_law_loose" = true)
    (h400 : PySem.W.keepIn K (.ref f142) = true)
    (h401 : PySem.W.nsIn K mainGlobals "_law_scan" = some (some (.ref f143)))
    (h402 : K.lookup f143 = some ⟨oc143, od143, .func (PySem.W.fnOf "_law_scan" "_law_scan" (defArgs s_law_scan) (defBody s_law_scan) (defScope s_law_scan) .none kV143 dc143 pm143 an143 cd143 ct143), sl143⟩)
    (h403 : PySem.W.codeIn K cd143 "_law_scan" = true)
    (h404 : PySem.W.keepIn K (.ref f143) = true)
    (h405 : PySem.W.nsIn K mainGlobals "_law_read_good" = some (some (.ref f144)))
    (h406 : K.lookup f144 = some ⟨oc144, od144, .func (PySem.W.fnOf "_law_read_good" "_law_read_good" (defArgs s_law_read_good) (defBody s_law_read_good) (defScope s_law_read_good) .none kV144 dc144 pm144 an144 cd144 ct144), sl144⟩)
    (h407 : PySem.W.codeIn K cd144 "_law_read_good" = true)
    (h408 : PySem.W.keepIn K (.ref f144) = true)
    (h409 : PySem.W.nsIn K mainGlobals "_law_read" = some (some (.ref f145)))
    (h410 : K.lookup f145 = some ⟨oc145, od145, .func (PySem.W.fnOf "_law_read" "_law_read" (defArgs s_law_read) (defBody s_law_read) (defScope s_law_read) .none kV145 dc145 pm145 an145 cd145 ct145), sl145⟩)
    (h411 : PySem.W.codeIn K cd145 "_law_read" = true)
    (h412 : PySem.W.keepIn K (.ref f145) = true)
    (h413 : PySem.W.nsIn K mainGlobals "_law_bent" = some (some (.ref f146)))
    (h414 : K.lookup f146 = some ⟨oc146, od146, .func (PySem.W.fnOf "_law_bent" "_law_bent" (defArgs s_law_bent) (defBody s_law_bent) (defScope s_law_bent) .none kV146 dc146 pm146 an146 cd146 ct146), sl146⟩)
    (h415 : PySem.W.codeIn K cd146 "_law_bent" = true)
    (h416 : PySem.W.keepIn K (.ref f146) = true)
    (h417 : PySem.W.nsIn K mainGlobals "_law_any_so" = some (some (.ref f147)))
    (h418 : K.lookup f147 = some ⟨oc147, od147, .func (PySem.W.fnOf "_law_any_so" "_law_any_so" (defArgs s_law_any_so) (defBody s_law_any_so) (defScope s_law_any_so) .none kV147 dc147 pm147 an147 (.ref z_cdA) ct147), sl147⟩)
    (h419 : PySem.W.codeIn K (.ref z_cdA) "_law_any_so" = true)
    (h420 : PySem.W.keepIn K (.ref f147) = true)
    (h421 : PySem.W.nsIn K mainGlobals "_law_long_so" = some (some (.ref f148)))
    (h422 : K.lookup f148 = some ⟨oc148, od148, .func (PySem.W.fnOf "_law_long_so" "_law_long_so" (defArgs s_law_long_so) (defBody s_law_long_so) (defScope s_law_long_so) .none kV148 dc148 pm148 an148 cd148 ct148), sl148⟩)
    (h423 : PySem.W.codeIn K cd148 "_law_long_so" = true)
    (h424 : PySem.W.keepIn K (.ref f148) = true)
    (h425 : PySem.W.nsIn K mainGlobals "law" = some (some (.ref f149)))
    (h426 : K.lookup f149 = some ⟨oc149, od149, .func (PySem.W.fnOf "law" "law" (defArgs s_law) (defBody s_law) (defScope s_law) .none kV149 dc149 pm149 an149 cd149 ct149), sl149⟩)
    (h427 : PySem.W.codeIn K cd149 "law" = true)
    (h428 : PySem.W.keepIn K (.ref f149) = true)
    (h429 : K.lookup z_cdA = some o150)
    (h430 : (o150).cls = .type "code")
    (h431 : (o150).data = .fields vs150)
    (h432 : (vs150)[11]? = some (.ref z_tbA))
    (h433 : (vs150).getD 11 .none = .ref z_tbA)
    (h434 : (vs150).getD 18 .none = .str fi150 tf150)
    (h435 : (vs150).getD 7 .none = .int fl150 tg150)
    (h436 : (vs150).getD 9 .none = .bool nf150)
    (h437 : (vs150).getD 10 .none = .int tx150 tt150)
    (h438 : z_cdA ≠ z_tbA)
    (h439 : h.get? z_tbA = some { cls := .none, data := .fields #[] })
    (h440 : (K.lookup z_tbA).isNone = true) :
    ∃ A : Adr, A.pp = z_pp ∧ Txt K mg A ∧ Tbs K h A := ⟨⟨0, z_pp, z_KINDS, z_Circle, z_InvalidName, z_InvalidNumber, z_InvalidText, z_InvalidCircle, z_InvalidTie, z_InvalidParting, z_InvalidCase, z_TooMany, z_cdA, z_tbA⟩, rfl, {n_isinstance := PySem.W.mg_none_of X G h1, n_str := PySem.W.mg_none_of X G h2, n_len := PySem.W.mg_none_of X G h3, n_all := PySem.W.mg_none_of X G h4, n_list := PySem.W.mg_none_of X G h5, n_sum := PySem.W.mg_none_of X G h6, n_max := PySem.W.mg_none_of X G h7, n_sorted := PySem.W.mg_none_of X G h8, n_set := PySem.W.mg_none_of X G h9, n_NotImplemented := PySem.W.mg_none_of X G h10, n_range := PySem.W.mg_none_of X G h11, n_int := PySem.W.mg_none_of X G h12, n_abs := PySem.W.mg_none_of X G h13, n_tuple := PySem.W.mg_none_of X G h14, n_zip := PySem.W.mg_none_of X G h15, n_dict := PySem.W.mg_none_of X G h16, n_bool := PySem.W.mg_none_of X G h17, n_repr := PySem.W.mg_none_of X G h18, n_ValueError := PySem.W.mg_none_of X G h19, n_LookupError := PySem.W.mg_none_of X G h20, m_LETTERS := ⟨_, PySem.W.mg_of X G h21⟩, m_MOST_LETTERS := ⟨_, PySem.W.mg_of X G h22⟩, m_MOST_DEPTH := ⟨_, PySem.W.mg_of X G h23⟩, m_MOST_OPEN := ⟨_, PySem.W.mg_of X G h24⟩, m_KINDS := PySem.W.mg_of X G h25, d_KINDS := ⟨_, _, h26, h27⟩, d_KINDS_0 := ⟨_, h28⟩, d_KINDS_1 := ⟨_, h29⟩, m_Circle := PySem.W.mg_of X G h30, c_Circle := ⟨h31, h32, h33, h34⟩, y_Circle := ⟨h35, h36, h37, h38, kit_own h39 (by decide +kernel), kit_own h40 (by decide +kernel), kit_own h41 (by decide +kernel), kit_own h42 (by decide +kernel), kit_own h43 (by decide +kernel), kit_own h44 (by decide +kernel)⟩, s_Circle := h45, a_Circle_kind := h46, a_Circle_name := h47, a_Circle_parts := h48, a_Circle_size := h49, a_Circle_depth := h50, a_Circle_text := h51, k_Circle_LIMIT := ⟨_, ⟨h52, h53⟩, ⟨h54, ⟨_, rfl⟩⟩⟩, q_Circle_LIMIT := ⟨_, ⟨h55, ⟨_, rfl⟩, h56, by decide +kernel⟩⟩, i_Circle := initAt_mk h57 h58 h59 h60 h61 h62 h63 (fun _ _ _ _ _ _ us hl => match us, hl with | [_, _, _, _], _ => rfl), t_Circle_parts := methAt_mk h64 h65 h66 h67 h68 (fun _ _ _ _ _ _ us hl => match us, hl with | [_], _ => rfl), t_Circle_eyes := methAt_mk h69 h70 h71 h72 h73 (fun _ _ _ _ _ _ us hl => match us, hl with | [_], _ => rfl), t_Circle___str := methAt_mk h74 h75 h76 h77 h78 (fun _ _ _ _ _ _ us hl => match us, hl with | [_], _ => rfl), t_Circle___repr := methAt_mk h79 h80 h81 h82 h83 (fun _ _ _ _ _ _ us hl => match us, hl with | [_], _ => rfl), t_Circle___eq := methAt_mk h84 h85 h86 h87 h88 (fun _ _ _ _ _ _ us hl => match us, hl with | [_, _], _ => rfl), t_Circle___and := methAt_mk h89 h90 h91 h92 h93 (fun _ _ _ _ _ _ us hl => match us, hl with | [_, _], _ => rfl), t_Circle___or := methAt_mk h94 h95 h96 h97 h98 (fun _ _ _ _ _ _ us hl => match us, hl with | [_, _], _ => rfl), e_InvalidName := errAt_mk X G h99 h100 h101 h102 h103 h104 h105 h106 h107 h108 h109 h110 h111 (fun _ _ _ _ _ _ us hl => match us, hl with | [_, _], _ => rfl), a_InvalidName_value := h112, e_InvalidNumber := errAt_mk X G h113 h114 h115 h116 h117 h118 h119 h120 h121 h122 h123 h124 h125 (fun _ _ _ _ _ _ us hl => match us, hl with | [_, _], _ => rfl), a_InvalidNumber_value := h126, e_InvalidText := errAt_mk X G h127 h128 h129 h130 h131 h132 h133 h134 h135 h136 h137 h138 h139 (fun _ _ _ _ _ _ us hl => match us, hl with | [_, _], _ => rfl), a_InvalidText_at := h140, e_InvalidCircle := errAt_mk X G h141 h142 h143 h144 h145 h146 h147 h148 h149 h150 h151 h152 h153 (fun _ _ _ _ _ _ us hl => match us, hl with | [_, _], _ => rfl), a_InvalidCircle_at := h154, e_InvalidTie := errAt_mk X G h155 h156 h157 h158 h159 h160 h161 h162 h163 h164 h165 h166 h167 (fun _ _ _ _ _ _ us hl => match us, hl with | [_, _], _ => rfl), a_InvalidTie_at := h168, e_InvalidParting := errAt_mk X G h169 h170 h171 h172 h173 h174 h175 h176 h177 h178 h179 h180 h181 (fun _ _ _ _ _ _ us hl => match us, hl with | [_, _], _ => rfl), a_InvalidParting_value := h182, e_InvalidCase := errAt_mk X G h183 h184 h185 h186 h187 h188 h189 h190 h191 h192 h193 h194 h195 (fun _ _ _ _ _ _ us hl => match us, hl with | [_, _], _ => rfl), a_InvalidCase_value := h196, e_TooMany := errAt_mk X G h197 h198 h199 h200 h201 h202 h203 h204 h205 h206 h207 h208 h209 (fun _ _ _ _ _ _ us hl => match us, hl with | [_, _, _], _ => rfl), a_TooMany_what := h210, a_TooMany_most := h211, x_InvalidName_InvalidName := h212, x_InvalidCircle_InvalidName := h213, x_InvalidCircle_InvalidNumber := h214, x_InvalidCircle_InvalidText := h215, x_InvalidCircle_InvalidCircle := h216, x_InvalidNumber_InvalidName := h217, x_InvalidNumber_InvalidNumber := h218, x_InvalidTie_InvalidName := h219, x_InvalidTie_InvalidNumber := h220, x_InvalidTie_InvalidText := h221, x_InvalidTie_InvalidCircle := h222, x_InvalidTie_InvalidTie := h223, x_InvalidParting_InvalidName := h224, x_InvalidParting_InvalidNumber := h225, x_InvalidParting_InvalidText := h226, x_InvalidParting_InvalidCircle := h227, x_InvalidParting_InvalidTie := h228, x_InvalidParting_InvalidParting := h229, x_TooMany_InvalidName := h230, x_TooMany_InvalidNumber := h231, x_TooMany_InvalidText := h232, x_TooMany_InvalidCircle := h233, x_TooMany_InvalidTie := h234, x_TooMany_InvalidParting := h235, x_TooMany_InvalidCase := h236, x_TooMany_TooMany := h237, x_InvalidText_InvalidName := h238, x_InvalidText_InvalidNumber := h239, x_InvalidText_InvalidText := h240, x_InvalidText_TooMany := h241, kc_NoneType := h242, kc_bool := h243, kc_int := h244, kc_list := h245, kc_str := h246, kc_tuple := h247, nb_Circle := h248, nf_list := h249, nf_tuple := h250, nf_str := h251, nl_Circle := h252, f_is_name := fnAt_mk X G h253 h254 h255 h256 (fun _ _ _ _ _ _ us hl => match us, hl with | [_], _ => rfl), f_without_repeats := fnAt_mk X G h257 h258 h259 h260 (fun _ _ _ _ _ _ us hl => match us, hl with | [_], _ => rfl), f_flattened := fnAt_mk X G h261 h262 h263 h264 (fun _ _ _ _ _ _ us hl => match us, hl with | [_, _], _ => rfl), f_size_of := fnAt_mk X G h265 h266 h267 h268 (fun _ _ _ _ _ _ us hl => match us, hl with | [_], _ => rfl), f_depth_over := fnAt_mk X G h269 h270 h271 h272 (fun _ _ _ _ _ _ us hl => match us, hl with | [_], _ => rfl), f_inner_text := fnAt_mk X G h273 h274 h275 h276 (fun _ _ _ _ _ _ us hl => match us, hl with | [_], _ => rfl), f_text_of := fnAt_mk X G h277 h278 h279 h280 (fun _ _ _ _ _ _ us hl => match us, hl with | [_, _], _ => rfl), f_eye := fnAt_mk X G h281 h282 h283 h284 (fun _ _ _ _ _ _ us hl => match us, hl with | [_], _ => rfl), f_built := fnAt_mk X G h285 h286 h287 h288 (fun _ _ _ _ _ _ us hl => match us, hl with | [_, _], _ => rfl), f_read_circle := fnAt_mk X G h289 h290 h291 h292 (fun _ _ _ _ _ _ us hl => match us, hl with | [_], _ => rfl), f_is_circle_text := fnAt_mk X G h293 h294 h295 h296 (fun _ _ _ _ _ _ us hl => match us, hl with | [_], _ => rfl), f_read_row := fnAt_mk X G h297 h298 h299 h300 (fun _ _ _ _ _ _ us hl => match us, hl with | [_, _, _], _ => rfl), f_read_item := fnAt_mk X G h301 h302 h303 h304 (fun _ _ _ _ _ _ us hl => match us, hl with | [_, _, _], _ => rfl), f_name_at := fnAt_mk X G h305 h306 h307 h308 (fun _ _ _ _ _ _ us hl => match us, hl with | [_, _], _ => rfl), f_read_sign := fnAt_mk X G h309 h310 h311 h312 (fun _ _ _ _ _ _ us hl => match us, hl with | [_, _], _ => rfl), f_check_sign := fnAt_mk X G h313 h314 h315 h316 (fun _ _ _ _ _ _ us hl => match us, hl with | [_, _, _], _ => rfl), f_grown := fnAt_mk X G h317 h318 h319 h320 (fun _ _ _ _ _ _ us hl => match us, hl with | [_], _ => rfl), f_law_bag := fnAt_mk X G h321 h322 h323 h324 (fun _ _ _ _ _ _ us hl => match us, hl with | [_], _ => rfl), f_law_draw := fnAt_mk X G h325 h326 h327 h328 (fun _ _ _ _ _ _ us hl => match us, hl with | [_, _], _ => rfl), f_law_of := fnAt_mk X G h329 h330 h331 h332 (fun _ _ _ _ _ _ us hl => match us, hl with | [_, _], _ => rfl), f_law_same := fnAt_mk X G h333 h334 h335 h336 (fun _ _ _ _ _ _ us hl => match us, hl with | [_, _], _ => rfl), f_law_try := fnAt_mk X G h337 h338 h339 h340 (fun _ _ _ _ _ _ us hl => match us, hl with | [_], _ => rfl), f_law_title := fnAt_mk X G h341 h342 h343 h344 (fun _ _ _ _ _ _ us hl => match us, hl with | [_, _], _ => rfl), f_law_titles := fnAt_mk X G h345 h346 h347 h348 (fun _ _ _ _ _ _ us hl => match us, hl with | [_, _], _ => rfl), f_law_words := fnAt_mk X G h349 h350 h351 h352 (fun _ _ _ _ _ _ us hl => match us, hl with | [_], _ => rfl), f_law_size := fnAt_mk X G h353 h354 h355 h356 (fun _ _ _ _ _ _ us hl => match us, hl with | [_], _ => rfl), f_law_depth := fnAt_mk X G h357 h358 h359 h360 (fun _ _ _ _ _ _ us hl => match us, hl with | [_], _ => rfl), f_law_leaves := fnAt_mk X G h361 h362 h363 h364 (fun _ _ _ _ _ _ us hl => match us, hl with | [_], _ => rfl), f_law_join := fnAt_mk X G h365 h366 h367 h368 (fun _ _ _ _ _ _ us hl => match us, hl with | [_, _], _ => rfl), f_law_checked := fnAt_mk X G h369 h370 h371 h372 (fun _ _ _ _ _ _ us hl => match us, hl with | [_, _], _ => rfl), f_law_circle := fnAt_mk X G h373 h374 h375 h376 (fun _ _ _ _ _ _ us hl => match us, hl with | [_], _ => rfl), f_law_told_of := fnAt_mk X G h377 h378 h379 h380 (fun _ _ _ _ _ _ us hl => match us, hl with | [_], _ => rfl), f_law_due_of := fnAt_mk X G h381 h382 h383 h384 (fun _ _ _ _ _ _ us hl => match us, hl with | [_], _ => rfl), f_law_as := fnAt_mk X G h385 h386 h387 h388 (fun _ _ _ _ _ _ us hl => match us, hl with | [_, _], _ => rfl), f_law_odd := fnAt_mk X G h389 h390 h391 h392 (fun _ _ _ _ _ _ us hl => match us, hl with | [_, _], _ => rfl), f_law_raw := fnAt_mk X G h393 h394 h395 h396 (fun _ _ _ _ _ _ us hl => match us, hl with | [_, _, _], _ => rfl), f_law_loose := fnAt_mk X G h397 h398 h399 h400 (fun _ _ _ _ _ _ us hl => match us, hl with | [_, _], _ => rfl), f_law_scan := fnAt_mk X G h401 h402 h403 h404 (fun _ _ _ _ _ _ us hl => match us, hl with | [_], _ => rfl), f_law_read_good := fnAt_mk X G h405 h406 h407 h408 (fun _ _ _ _ _ _ us hl => match us, hl with | [_], _ => rfl), f_law_read := fnAt_mk X G h409 h410 h411 h412 (fun _ _ _ _ _ _ us hl => match us, hl with | [_], _ => rfl), f_law_bent := fnAt_mk X G h413 h414 h415 h416 (fun _ _ _ _ _ _ us hl => match us, hl with | [_, _, _], _ => rfl), f_law_any_so := fnAtC_mk X G h417 h418 h419 h420 (fun _ _ _ _ _ _ us hl => match us, hl with | [_], _ => rfl), f_law_long_so := fnAt_mk X G h421 h422 h423 h424 (fun _ _ _ _ _ _ us hl => match us, hl with | [_, _], _ => rfl), f_law := fnAt_mk X G h425 h426 h427 h428 (fun _ _ _ _ _ _ us hl => match us, hl with | [_], _ => rfl) }, {cA := codeHd_mk X h429 h430 h431 h432 h433 h434 h435 h436 h437 h438, tA := h439, nA := (Option.isNone_iff_eq_none.mp h440) }⟩
theorem fin {l : PySem.W.OpenLaw} {w : World} {K : PySem.W.Frag} {mg : Str → Option Value} {fa : Addr} {h : Heap} (T : ∃ A : Adr, A.pp = w.params ∧ Txt K mg A ∧ Tbs K h A) (hmg : mg "law" = some (.ref fa)) : LamX.LawAtS l w K CX0 90 63 "_law_script" mg fa h := by
  obtain ⟨A, hpp, T, B⟩ := T
  obtain ⟨f, fd, F, hb, hm⟩ := T.f_law
  obtain ⟨oc, od, kV, doc, pm, an, cdv, ct, osl, rfl, lk, hcd⟩ := F.ex
  cases hmg.symm.trans hm
  refine ⟨PySem.W.fnOf "law" "law" (defArgs s_law) (defBody s_law) (defScope s_law) .none kV doc pm an cdv ct, [(A.cdA, A.tbA)], spLaw K (TT A), ?_, ?_, ?_, fun s v => .of_eq rfl, fun H a ns hl _ hT hS => ⟨a, ns, rfl, hS, hl, tabs_new ?_, fun _ => rfl⟩, fun base _ _ TB => ?_⟩
  · intro p hp
    simp only [List.mem_cons, List.not_mem_nil, or_false] at hp
    rcases hp with rfl
    · exact B.tA
  · intro p hp
    simp only [List.mem_cons, List.not_mem_nil, or_false] at hp
    rcases hp with rfl
    · exact B.nA
  · intro p hp
    simp only [List.mem_cons, List.not_mem_nil, or_false] at hp
    rcases hp with rfl
    · exact B.cA
  · intro p hp
    simp only [TT, List.mem_cons, List.not_mem_nil, or_false] at hp
    rcases hp with rfl
    · exact hT (A.cdA, A.tbA) (by simp)
  · obtain ⟨f2, fd2, hm2, F2, _, R⟩ := ok_law (P := l.prog) (w := w) (base := base) T hpp (TB (A.cdA, A.tbA) (by simp))
    cases hm.symm.trans hm2
    obtain ⟨oc2, od2, kV2, doc2, pm2, an2, cdv2, ct2, osl2, rfl, lk2, hcd2⟩ := F2.ex
    cases lk.symm.trans lk2
    exact R
end Eyes
open PySem PySem.W PyProof.Rows
set_option maxHeartbeats 0 in
theorem PySem.Challenge.cw_pooledeyes_k05_whole_wrong_circle_texts_holds : PySem.Challenge.rw_pooledeyes_k05_whole_wrong_circle_texts.Holds := by
  w_on; o_law; k_head; (case hw => w_witness2)
  k_fill
  refine LamX.walk_ofTs (l := PySem.Challenge.rw_pooledeyes_k05_whole_wrong_circle_texts) (n := 63) (k := 90) (x := "_law_script") (CX := fun _ => L2.CX0) rfl (by decide) rfl ⟨rfl, by decide, by decide⟩ (fun w h Y => Y.1) ?F (fun _ _ _ _ _ h => h)
  case F =>
    intro w mg fa h Y KX G hmg
    refine' Eyes.fin (Eyes.txt_mk (z_pp := w.params) KX G ?h1 ?h2 ?h3 ?h4 ?h5 ?h6 ?h7 ?h8 ?h9 ?h10 ?h11 ?h12 ?h13 ?h14 ?h15 ?h16 ?h17 ?h18 ?h19 ?h20 ?h21 ?h22 ?h23 ?h24 ?h25 ?h26 ?h27 ?h28 ?h29 ?h30 ?h31 ?h32 ?h33 ?h34 ?h35 ?h36 ?h37 ?h38 ?h39 ?h40 ?h41 ?h42 ?h43 ?h44 ?h45 ?h46 ?h47 ?h48 ?h49 ?h50 ?h51 ?h52 ?h53 ?h54 ?h55 ?h56 ?h57 ?h58 ?h59 ?h60 ?h61 ?h62 ?h63 ?h64 ?h65 ?h66 ?h67 ?h68 ?h69 ?h70 ?h71 ?h72 ?h73 ?h74 ?h75 ?h76 ?h77 ?h78 ?h79 ?h80 ?h81 ?h82 ?h83 ?h84 ?h85 ?h86 ?h87 ?h88 ?h89 ?h90 ?h91 ?h92 ?h93 ?h94 ?h95 ?h96 ?h97 ?h98 ?h99 ?h100 ?h101 ?h102 ?h103 ?h104 ?h105 ?h106 ?h107 ?h108 ?h109 ?h110 ?h111 ?h112 ?h113 ?h114 ?h115 ?h116 ?h117 ?h118 ?h119 ?h120 ?h121 ?h122 ?h123 ?h124 ?h125 ?h126 ?h127 ?h128 ?h129 ?h130 ?h131 ?h132 ?h133 ?h134 ?h135 ?h136 ?h137 ?h138 ?h139 ?h140 ?h141 ?h142 ?h143 ?h144 ?h145 ?h146 ?h147 ?h148 ?h149 ?h150 ?h151 ?h152 ?h153 ?h154 ?h155 ?h156 ?h157 ?h158 ?h159 ?h160 ?h161 ?h162 ?h163 ?h164 ?h165 ?h166 ?h167 ?h168 ?h169 ?h170 ?h171 ?h172 ?h173 ?h174 ?h175 ?h176 ?h177 ?h178 ?h179 ?h180 ?h181 ?h182 ?h183 ?h184 ?h185 ?h186 ?h187 ?h188 ?h189 ?h190 ?h191 ?h192 ?h193 ?h194 ?h195 ?h196 ?h197 ?h198 ?h199 ?h200 ?h201 ?h202 ?h203 ?h204 ?h205 ?h206 ?h207 ?h208 ?h209 ?h210 ?h211 ?h212 ?h213 ?h214 ?h215 ?h216 ?h217 ?h218 ?h219 ?h220 ?h221 ?h222 ?h223 ?h224 ?h225 ?h226 ?h227 ?h228 ?h229 ?h230 ?h231 ?h232 ?h233 ?h234 ?h235 ?h236 ?h237 ?h238 ?h239 ?h240 ?h241 ?h242 ?h243 ?h244 ?h245 ?h246 ?h247 ?h248 ?h249 ?h250 ?h251 ?h252 ?h253 ?h254 ?h255 ?h256 ?h257 ?h258 ?h259 ?h260 ?h261 ?h262 ?h263 ?h264 ?h265 ?h266 ?h267 ?h268 ?h269 ?h270 ?h271 ?h272 ?h273 ?h274 ?h275 ?h276 ?h277 ?h278 ?h279 ?h280 ?h281 ?h282 ?h283 ?h284 ?h285 ?h286 ?h287 ?h288 ?h289 ?h290 ?h291 ?h292 ?h293 ?h294 ?h295 ?h296 ?h297 ?h298 ?h299 ?h300 ?h301 ?h302 ?h303 ?h304 ?h305 ?h306 ?h307 ?h308 ?h309 ?h310 ?h311 ?h312 ?h313 ?h314 ?h315 ?h316 ?h317 ?h318 ?h319 ?h320 ?h321 ?h322 ?h323 ?h324 ?h325 ?h326 ?h327 ?h328 ?h329 ?h330 ?h331 ?h332 ?h333 ?h334 ?h335 ?h336 ?h337 ?h338 ?h339 ?h340 ?h341 ?h342 ?h343 ?h344 ?h345 ?h346 ?h347 ?h348 ?h349 ?h350 ?h351 ?h352 ?h353 ?h354 ?h355 ?h356 ?h357 ?h358 ?h359 ?h360 ?h361 ?h362 ?h363 ?h364 ?h365 ?h366 ?h367 ?h368 ?h369 ?h370 ?h371 ?h372 ?h373 ?h374 ?h375 ?h376 ?h377 ?h378 ?h379 ?h380 ?h381 ?h382 ?h383 ?h384 ?h385 ?h386 ?h387 ?h388 ?h389 ?h390 ?h391 ?h392 ?h393 ?h394 ?h395 ?h396 ?h397 ?h398 ?h399 ?h400 ?h401 ?h402 ?h403 ?h404 ?h405 ?h406 ?h407 ?h408 ?h409 ?h410 ?h411 ?h412 ?h413 ?h414 ?h415 ?h416 ?h417 ?h418 ?h419 ?h420 ?h421 ?h422 ?h423 ?h424 ?h425 ?h426 ?h427 ?h428 ?h429 ?h430 ?h431 ?h432 ?h433 ?h434 ?h435 ?h436 ?h437 ?h438 ?h439 ?h440) hmg
    (case h1 => k_is); (case h2 => k_is); (case h3 => k_is); (case h4 => k_is); (case h5 => k_is); (case h6 => k_is)
    (case h7 => k_is); (case h8 => k_is); (case h9 => k_is); (case h10 => k_is); (case h11 => k_is); (case h12 => k_is)
    (case h13 => k_is); (case h14 => k_is); (case h15 => k_is); (case h16 => k_is); (case h17 => k_is); (case h18 => k_is)
    (case h19 => k_is); (case h20 => k_is); (case h21 => k_is); (case h22 => k_is); (case h23 => k_is); (case h24 => k_is)
    (case h25 => k_is); (case h26 => k_is); (case h27 => exact (by repeat' first | exact True.intro | refine ⟨⟨_, _, rfl, rfl⟩, ?_⟩)); (case h28 => k_is); (case h29 => k_is); (case h30 => k_is)
    (case h31 => k_is); (case h32 => k_is); (case h33 => k_is); (case h34 => k_is); (case h35 => k_is); (case h36 => k_is)
    (case h37 => k_is); (case h38 => k_is); (case h39 => k_is); (case h40 => k_is); (case h41 => k_is); (case h42 => k_is)
    (case h43 => k_is); (case h44 => k_is); (case h45 => k_is); (case h46 => k_is); (case h47 => k_is); (case h48 => k_is)
    (case h49 => k_is); (case h50 => k_is); (case h51 => k_is); (case h52 => k_is); (case h53 => k_is); (case h54 => k_is)
    (case h55 => k_is); (case h56 => k_is); (case h57 => k_is); (case h58 => k_is); (case h59 => k_is); (case h60 => k_is)
    (case h61 => k_is); (case h62 => k_is); (case h63 => k_is); (case h64 => k_is); (case h65 => k_is); (case h66 => k_is)
    (case h67 => k_is); (case h68 => k_is); (case h69 => k_is); (case h70 => k_is); (case h71 => k_is); (case h72 => k_is)
    (case h73 => k_is); (case h74 => k_is); (case h75 => k_is); (case h76 => k_is); (case h77 => k_is); (case h78 => k_is)
    (case h79 => k_is); (case h80 => k_is); (case h81 => k_is); (case h82 => k_is); (case h83 => k_is); (case h84 => k_is)
    (case h85 => k_is); (case h86 => k_is); (case h87 => k_is); (case h88 => k_is); (case h89 => k_is); (case h90 => k_is)
    (case h91 => k_is); (case h92 => k_is); (case h93 => k_is); (case h94 => k_is); (case h95 => k_is); (case h96 => k_is)
    (case h97 => k_is); (case h98 => k_is); (case h99 => k_is); (case h100 => k_is); (case h101 => kernel_rfl); (case h102 => k_is)
    (case h103 => k_is); (case h104 => k_is); (case h105 => k_is); (case h106 => kernel_rfl); (case h107 => k_is); (case h108 => k_is)
    (case h109 => k_is); (case h110 => k_is); (case h111 => k_is); (case h112 => k_is); (case h113 => k_is); (case h114 => k_is)
    (case h115 => kernel_rfl); (case h116 => k_is); (case h117 => k_is); (case h118 => k_is); (case h119 => k_is); (case h120 => kernel_rfl)
    (case h121 => k_is); (case h122 => k_is); (case h123 => k_is); (case h124 => k_is); (case h125 => k_is); (case h126 => k_is)
    (case h127 => k_is); (case h128 => k_is); (case h129 => kernel_rfl); (case h130 => k_is); (case h131 => k_is); (case h132 => k_is)
    (case h133 => k_is); (case h134 => kernel_rfl); (case h135 => k_is); (case h136 => k_is); (case h137 => k_is); (case h138 => k_is)
    (case h139 => k_is); (case h140 => k_is); (case h141 => k_is); (case h142 => k_is); (case h143 => kernel_rfl); (case h144 => k_is)
    (case h145 => k_is); (case h146 => k_is); (case h147 => k_is); (case h148 => kernel_rfl); (case h149 => k_is); (case h150 => k_is)
    (case h151 => k_is); (case h152 => k_is); (case h153 => k_is); (case h154 => k_is); (case h155 => k_is); (case h156 => k_is)
    (case h157 => kernel_rfl); (case h158 => k_is); (case h159 => k_is); (case h160 => k_is); (case h161 => k_is); (case h162 => kernel_rfl)
    (case h163 => k_is); (case h164 => k_is); (case h165 => k_is); (case h166 => k_is); (case h167 => k_is); (case h168 => k_is)
    (case h169 => k_is); (case h170 => k_is); (case h171 => kernel_rfl); (case h172 => k_is); (case h173 => k_is); (case h174 => k_is)
    (case h175 => k_is); (case h176 => kernel_rfl); (case h177 => k_is); (case h178 => k_is); (case h179 => k_is); (case h180 => k_is)
    (case h181 => k_is); (case h182 => k_is); (case h183 => k_is); (case h184 => k_is); (case h185 => kernel_rfl); (case h186 => k_is)
    (case h187 => k_is); (case h188 => k_is); (case h189 => k_is); (case h190 => kernel_rfl); (case h191 => k_is); (case h192 => k_is)
    (case h193 => k_is); (case h194 => k_is); (case h195 => k_is); (case h196 => k_is); (case h197 => k_is); (case h198 => k_is)
    (case h199 => kernel_rfl); (case h200 => k_is); (case h201 => k_is); (case h202 => k_is); (case h203 => k_is); (case h204 => kernel_rfl)
    (case h205 => k_is); (case h206 => k_is); (case h207 => k_is); (case h208 => k_is); (case h209 => k_is); (case h210 => k_is)
    (case h211 => k_is); (case h212 => kernel_rfl); (case h213 => kernel_rfl); (case h214 => kernel_rfl); (case h215 => kernel_rfl); (case h216 => kernel_rfl)
    (case h217 => kernel_rfl); (case h218 => kernel_rfl); (case h219 => kernel_rfl); (case h220 => kernel_rfl); (case h221 => kernel_rfl); (case h222 => kernel_rfl)
    (case h223 => kernel_rfl); (case h224 => kernel_rfl); (case h225 => kernel_rfl); (case h226 => kernel_rfl); (case h227 => kernel_rfl); (case h228 => kernel_rfl)
    (case h229 => kernel_rfl); (case h230 => kernel_rfl); (case h231 => kernel_rfl); (case h232 => kernel_rfl); (case h233 => kernel_rfl); (case h234 => kernel_rfl)
    (case h235 => kernel_rfl); (case h236 => kernel_rfl); (case h237 => kernel_rfl); (case h238 => kernel_rfl); (case h239 => kernel_rfl); (case h240 => kernel_rfl)
    (case h241 => kernel_rfl); (case h242 => kernel_rfl); (case h243 => kernel_rfl); (case h244 => kernel_rfl); (case h245 => kernel_rfl); (case h246 => kernel_rfl)
    (case h247 => kernel_rfl); (case h248 => kernel_rfl); (case h249 => kernel_rfl); (case h250 => kernel_rfl); (case h251 => kernel_rfl); (case h252 => kernel_rfl)
    (case h253 => k_is); (case h254 => k_is); (case h255 => k_is); (case h256 => k_is); (case h257 => k_is); (case h258 => k_is)
    (case h259 => k_is); (case h260 => k_is); (case h261 => k_is); (case h262 => k_is); (case h263 => k_is); (case h264 => k_is)
    (case h265 => k_is); (case h266 => k_is); (case h267 => k_is); (case h268 => k_is); (case h269 => k_is); (case h270 => k_is)
    (case h271 => k_is); (case h272 => k_is); (case h273 => k_is); (case h274 => k_is); (case h275 => k_is); (case h276 => k_is)
    (case h277 => k_is); (case h278 => k_is); (case h279 => k_is); (case h280 => k_is); (case h281 => k_is); (case h282 => k_is)
    (case h283 => k_is); (case h284 => k_is); (case h285 => k_is); (case h286 => k_is); (case h287 => k_is); (case h288 => k_is)
    (case h289 => k_is); (case h290 => k_is); (case h291 => k_is); (case h292 => k_is); (case h293 => k_is); (case h294 => k_is)
    (case h295 => k_is); (case h296 => k_is); (case h297 => k_is); (case h298 => k_is); (case h299 => k_is); (case h300 => k_is)
    (case h301 => k_is); (case h302 => k_is); (case h303 => k_is); (case h304 => k_is); (case h305 => k_is); (case h306 => k_is)
    (case h307 => k_is); (case h308 => k_is); (case h309 => k_is); (case h310 => k_is); (case h311 => k_is); (case h312 => k_is)
    (case h313 => k_is); (case h314 => k_is); (case h315 => k_is); (case h316 => k_is); (case h317 => k_is); (case h318 => k_is)
    (case h319 => k_is); (case h320 => k_is); (case h321 => k_is); (case h322 => k_is); (case h323 => k_is); (case h324 => k_is)
    (case h325 => k_is); (case h326 => k_is); (case h327 => k_is); (case h328 => k_is); (case h329 => k_is); (case h330 => k_is)
    (case h331 => k_is); (case h332 => k_is); (case h333 => k_is); (case h334 => k_is); (case h335 => k_is); (case h336 => k_is)
    (case h337 => k_is); (case h338 => k_is); (case h339 => k_is); (case h340 => k_is); (case h341 => k_is); (case h342 => k_is)
    (case h343 => k_is); (case h344 => k_is); (case h345 => k_is); (case h346 => k_is); (case h347 => k_is); (case h348 => k_is)
    (case h349 => k_is); (case h350 => k_is); (case h351 => k_is); (case h352 => k_is); (case h353 => k_is); (case h354 => k_is)
    (case h355 => k_is); (case h356 => k_is); (case h357 => k_is); (case h358 => k_is); (case h359 => k_is); (case h360 => k_is)
    (case h361 => k_is); (case h362 => k_is); (case h363 => k_is); (case h364 => k_is); (case h365 => k_is); (case h366 => k_is)
    (case h367 => k_is); (case h368 => k_is); (case h369 => k_is); (case h370 => k_is); (case h371 => k_is); (case h372 => k_is)
    (case h373 => k_is); (case h374 => k_is); (case h375 => k_is); (case h376 => k_is); (case h377 => k_is); (case h378 => k_is)
    (case h379 => k_is); (case h380 => k_is); (case h381 => k_is); (case h382 => k_is); (case h383 => k_is); (case h384 => k_is)
    (case h385 => k_is); (case h386 => k_is); (case h387 => k_is); (case h388 => k_is); (case h389 => k_is); (case h390 => k_is)
    (case h391 => k_is); (case h392 => k_is); (case h393 => k_is); (case h394 => k_is); (case h395 => k_is); (case h396 => k_is)
    (case h397 => k_is); (case h398 => k_is); (case h399 => k_is); (case h400 => k_is); (case h401 => k_is); (case h402 => k_is)
    (case h403 => k_is); (case h404 => k_is); (case h405 => k_is); (case h406 => k_is); (case h407 => k_is); (case h408 => k_is)
    (case h409 => k_is); (case h410 => k_is); (case h411 => k_is); (case h412 => k_is); (case h413 => k_is); (case h414 => k_is)
    (case h415 => k_is); (case h416 => k_is); (case h417 => k_is); (case h418 => k_is); (case h419 => k_is); (case h420 => k_is)
    (case h421 => k_is); (case h422 => k_is); (case h423 => k_is); (case h424 => k_is); (case h425 => k_is); (case h426 => k_is)
    (case h427 => k_is); (case h428 => k_is); (case h429 => k_is); (case h430 => rfl); (case h431 => rfl); (case h432 => rfl)
    (case h433 => rfl); (case h434 => rfl); (case h435 => rfl); (case h436 => rfl); (case h437 => rfl); (case h439 => exact Y.2 _ (by decide))
    (case h440 => kernel_rfl); (case h438 => decide +kernel)

