import PyProof.Rows.All
import Wide.All
import OpenK.AllK
import Wide.FinOn
import HandS.ForMost
import HandS.IsInst
import HandS.Style
import HandS.Evl
import HandS.Defaults
import HandS.Walk
import HandS.Zip
import HandS.ClsMeth
import HandS.Deep
import HandS.ListEq
import HandS.DeepEq
import HandS.RaiseMore
import KE.KFmtOwn
import KE.KDictList
import HandS.FStr
import PyProof.Rows.StrMeet
import HandS.Exc
import HandS.TryMany
import HandS.ExcField
import HandS.ExcInit
import HandS.ExcOwn
import HandS.WordsExc
import HandS.Lambda
import HandS.EndTab
import HandS.Star
import HandS.More
import KE.GoesEnum
import HandS.Set
import HandS.Strs
import PyProof.Rows.SetFrom
import HandS.Small
import HandS.Conv
import KE.GoesEnumKw
import HandS.SetKeys
import PyProof.DictMoreH
import KE.KDictZip
import KE.KStar
import HandS.TupMul
import HandS.SetFor
import HandS.TupAny
import PySem.Challenge.RW_pooledeyes_k07_partings_joined_and_met
set_option Elab.async false
set_option linter.all false
set_option maxRecDepth 100000
set_option maxHeartbeats 4000000
/-! My own short words: a def of the text with its promise, calls of it. -/
namespace Eyes
open PySem PySem.Spec PyProof.Rows L2
def FnAt (K : PySem.W.Frag) (mg : Str → Option Value) (x : Str) (st : Stmt) (ps : List Str) : Prop :=
  ∃ (f : Addr) (fd : FuncData), Fun K x x st f fd ∧ Binds K fd ps [] ∧ mg x = some (.ref f)
def Pr (P : Program) (w : World) (K : PySem.W.Frag) (mg : Str → Option Value) (base : Heap) (x : Str) (st : Stmt) (ps : List Str) (k : Nat) (sp : Sp) : Prop :=
  ∃ (f : Addr) (fd : FuncData), mg x = some (.ref f) ∧ Fun K x x st f fd ∧ Binds K fd ps [] ∧ FnOk P w K mg base CX0 k f fd ps sp
def InitAt (K : PySem.W.Frag) (C : Addr) (qual : Str) (st : Stmt) (ps : List Str) : Prop :=
  ∃ (f : Addr) (fd : FuncData), Mk K C f ∧ Fun K "__init__" qual st f fd ∧ Binds K fd ps []
def PrI (P : Program) (w : World) (K : PySem.W.Frag) (mg : Str → Option Value) (base : Heap) (C : Addr) (ps : List Str) (k : Nat) (sp : Sp) : Prop :=
  ∃ (f : Addr) (fd : FuncData), Mk K C f ∧ Binds K fd ps [] ∧ FnOk P w K mg base CX0 k f fd ps sp
def MethAt (K : PySem.W.Frag) (C : Addr) (m qual : Str) (st : Stmt) (ps : List Str) : Prop :=
  ∃ (f : Addr) (fd : FuncData), Meth K C m f ∧ Fun K m qual st f fd ∧ Binds K fd ps []
def PrM (P : Program) (w : World) (K : PySem.W.Frag) (mg : Str → Option Value) (base : Heap) (C : Addr) (m : Str) (ps : List Str) (k : Nat) (sp : Sp) : Prop :=
  ∃ (f : Addr) (fd : FuncData), Meth K C m f ∧ Binds K fd ps [] ∧ FnOk P w K mg base CX0 k f fd ps sp
theorem kit_own {K : PySem.W.Frag} {C : Addr} {T : String} (h : PySem.W.subIn K (.ref C) (.type T) = some false) (m : PySem.W.kitMeta T = true) : PySem.W.kitOne K (.ref C) (.type T) = some false := by
  unfold PySem.W.kitOne
  have e : (Value.ref C == Value.type T) = false := rfl
  rw [e]
  show (if PySem.W.kitMeta T = true then PySem.W.subIn K (.ref C) (.type T) else none) = some false
  rw [if_pos m]
  exact h
structure ClsY (K : PySem.W.Frag) (C : Addr) : Prop where
  ty1 : PySem.W.findIn K (.ref C) "__class__" = some (some (.builtin "object.__class__"))
  ty2 : PySem.W.specialIn K (.builtin "object.__class__") "__get__" = some (some (.builtin "getset_descriptor.__get__"))
  ty3 : PySem.W.takesIn K (.builtin "object.__class__") = some true
  ty4 : PySem.W.mroIn K C (.type "object") = some true
  k_str : PySem.W.kitOne K (.ref C) (.type "str") = some false
  k_int : PySem.W.kitOne K (.ref C) (.type "int") = some false
  k_bool : PySem.W.kitOne K (.ref C) (.type "bool") = some false
  k_list : PySem.W.kitOne K (.ref C) (.type "list") = some false
  k_tuple : PySem.W.kitOne K (.ref C) (.type "tuple") = some false
  k_dict : PySem.W.kitOne K (.ref C) (.type "dict") = some false
section
variable {P : Program} {w : World} {K : PySem.W.Frag} {mg : Str → Option Value} {base : Heap}
abbrev BindH (x qual : Str) (st : Stmt) (ps : List Str) : Prop := ∀ (kV doc pm : Value) (an : Option Addr) (cdv ct : Value) (us : List Value), us.length = ps.length → bindArgs (PySem.W.fnOf x qual (defArgs st) (defBody st) (defScope st) .none kV doc pm an cdv ct) ⟨us, []⟩ = pure (ps.zip us)
theorem fnAt_mk {h : Heap} (X : K.In h) (G : h.Ns mainGlobals mg) {x : Str} {st : Stmt} {ps : List Str} {f : Addr} {oc : Value} {od an : Option Addr} {osl : Array (Option Value)} {kV doc pm cdv ct : Value} (a : PySem.W.nsIn K mainGlobals x = some (some (.ref f)))
    (l : K.lookup f = some ⟨oc, od, .func (PySem.W.fnOf x x (defArgs st) (defBody st) (defScope st) .none kV doc pm an cdv ct), osl⟩) (c : PySem.W.codeIn K cdv x = true) (k : PySem.W.keepIn K (.ref f) = true) (hb : BindH x x st ps) : FnAt K mg x st ps :=
  ⟨f, _, fun_mk l c k, (fun_mk l c k).binds hb, PySem.W.mg_of X G a⟩
theorem initAt_mk {C : Addr} {qual : Str} {st : Stmt} {ps : List Str} {f : Addr} {oc : Value} {od an : Option Addr} {osl : Array (Option Value)} {kV doc pm cdv ct : Value} (mk : PySem.W.makesIn K C = true) (kc : PySem.W.keepIn K (.ref C) = true)
    (a : PySem.W.findIn K (.ref C) "__init__" = some (some (.ref f))) (i : PySem.W.isFn K (.ref f) = true) (l : K.lookup f = some ⟨oc, od, .func (PySem.W.fnOf "__init__" qual (defArgs st) (defBody st) (defScope st) .none kV doc pm an cdv ct), osl⟩)
    (c : PySem.W.codeIn K cdv qual = true) (k : PySem.W.keepIn K (.ref f) = true) (hb : BindH "__init__" qual st ps) : InitAt K C qual st ps :=
  ⟨f, _, ⟨mk, a, i, kc⟩, fun_mk l c k, (fun_mk l c k).binds hb⟩
theorem methAt_mk {C : Addr} {m qual : Str} {st : Stmt} {ps : List Str} {f : Addr} {oc : Value} {od an : Option Addr} {osl : Array (Option Value)} {kV doc pm cdv ct : Value}
    (a : PySem.W.findIn K (.ref C) m = some (some (.ref f))) (i : PySem.W.isFn K (.ref f) = true) (l : K.lookup f = some ⟨oc, od, .func (PySem.W.fnOf m qual (defArgs st) (defBody st) (defScope st) .none kV doc pm an cdv ct), osl⟩)
    (c : PySem.W.codeIn K cdv qual = true) (k : PySem.W.keepIn K (.ref f) = true) (hb : BindH m qual st ps) : MethAt K C m qual st ps :=
  ⟨f, _, ⟨a, i, k⟩, fun_mk l c k, (fun_mk l c k).binds hb⟩
theorem pr_mk {x : Str} {st : Stmt} {N ps : List Str} {k : Nat} {sp : Sp} (A : FnAt K mg x st ps) (S : FnScope N ps (defScope st)) (len : ∀ vs H Q E, sp vs H Q E → vs.length = ps.length)
    (hbody : ∀ (f : Addr) (cdv : Value) (A : Around) (outer : List Env) (s : Shared) (H : Hp) (vs : List V) (Q : VK) (E : XK), Room k (A.deeper (envOfC x (defScope st) s.heap.objs.size f cdv)) → sp vs H Q E →
      ∃ t, PSs (cxOf CX0 P w K mg base N x (defScope st) f cdv A outer s H E).nox (defBody st) t ∧ t { nx := fun _ H' => Q .non H', rt := Q } (start N vs) H) : Pr P w K mg base x st ps (k + 1) sp := by
  obtain ⟨f, fd, F, hb, hm⟩ := A
  exact ⟨f, fd, hm, F, hb, F.ok S len fun cdv A outer s H vs Q E hr h => hbody f cdv A outer s H vs Q E hr h⟩
theorem pri_mk {C : Addr} {qual : Str} {st : Stmt} {N ps : List Str} {k : Nat} {sp : Sp} (A : InitAt K C qual st ps) (S : FnScope N ps (defScope st)) (len : ∀ vs H Q E, sp vs H Q E → vs.length = ps.length)
    (hbody : ∀ (f : Addr) (cdv : Value) (A : Around) (outer : List Env) (s : Shared) (H : Hp) (vs : List V) (Q : VK) (E : XK), Room k (A.deeper (envOfC qual (defScope st) s.heap.objs.size f cdv)) → sp vs H Q E →
      ∃ t, PSs (cxOf CX0 P w K mg base N qual (defScope st) f cdv A outer s H E).nox (defBody st) t ∧ t { nx := fun _ H' => Q .non H', rt := Q } (start N vs) H) : PrI P w K mg base C ps (k + 1) sp := by
  obtain ⟨f, fd, hm, F, hb⟩ := A
  exact ⟨f, fd, hm, hb, F.ok S len fun cdv A outer s H vs Q E hr h => hbody f cdv A outer s H vs Q E hr h⟩
theorem prm_mk {C : Addr} {m qual : Str} {st : Stmt} {N ps : List Str} {k : Nat} {sp : Sp} (A : MethAt K C m qual st ps) (S : FnScope N ps (defScope st)) (len : ∀ vs H Q E, sp vs H Q E → vs.length = ps.length)
    (hbody : ∀ (f : Addr) (cdv : Value) (A : Around) (outer : List Env) (s : Shared) (H : Hp) (vs : List V) (Q : VK) (E : XK), Room k (A.deeper (envOfC qual (defScope st) s.heap.objs.size f cdv)) → sp vs H Q E →
      ∃ t, PSs (cxOf CX0 P w K mg base N qual (defScope st) f cdv A outer s H E).nox (defBody st) t ∧ t { nx := fun _ H' => Q .non H', rt := Q } (start N vs) H) : PrM P w K mg base C m ps (k + 1) sp := by
  obtain ⟨f, fd, hm, F, hb⟩ := A
  exact ⟨f, fd, hm, hb, F.ok S len fun cdv A outer s H vs Q E hr h => hbody f cdv A outer s H vs Q E hr h⟩
end
def pick {α : Type} (is : List Nat) (xs : List α) : List α := is.filterMap fun i => xs[i]?
theorem pick_vals {vs : List V} {us : List Value} (r : Vals vs us) : ∀ is : List Nat, Vals (pick is vs) (pick is us)
  | [] => .nil
  | i :: is => by
    unfold pick
    rw [List.filterMap_cons, List.filterMap_cons]
    cases h : vs[i]? with
    | none =>
      rw [r.none_of h]
      exact pick_vals r is
    | some v =>
      obtain ⟨u, hu, rv⟩ := r.get h
      rw [hu]
      exact .cons rv (pick_vals r is)
section
variable {X : Cx} {x : Str} {st : Stmt} {ps : List Str} {sp : Sp} {e : Expr} {es : List Expr} {kws : List Keyword} {p pos : Pos} {t tk : TA}
theorem pcall {j k : Nat} (G : Pr X.prog X.w X.K X.mg X.base x st ps j sp) (hr : Room k X.A) (ha : PA X (e :: es) t) (hj : j ≤ k := by first | decide | omega) (hg : Gl X x := by rfl)
    (hdb : (x == ("__debug__" : Str)) = false := by decide) (he : starEach (e :: es) X.env = (false, eval e X.env) :: starEach es X.env := by rfl) (hpl : (backTo pos (starEach es X.env)).any (·.1) = false := by rfl) :
    PE X (.Call (.Name x p) (e :: es) [] pos) (tCall sp [] (fun _ _ _ => False) t) := by
  obtain ⟨f, fd, hm, F0, hb, F⟩ := G
  exact pe_call F (hr.mono hj) hg hm F0.kp hb .nil (fun _ _ _ _ _ _ _ h => h.elim) ha hdb he hpl
theorem pcall0 {j k : Nat} (G : Pr X.prog X.w X.K X.mg X.base x st ps j sp) (hr : Room k X.A) (hj : j ≤ k := by first | decide | omega) (hg : Gl X x := by rfl)
    (hdb : (x == ("__debug__" : Str)) = false := by decide) :
    PE X (.Call (.Name x p) [] [] pos) (tCall sp [] (fun _ _ _ => False) tNil) := by
  obtain ⟨f, fd, hm, F0, hb, F⟩ := G
  exact pe_call0 F (hr.mono hj) hg hm F0.kp hb .nil (fun _ _ _ _ _ _ _ h => h.elim) hdb
def KwOk (x : Str) (st : Stmt) (ps : List Str) (n : Nat) (ks : List Str) (is : List Nat) : Prop :=
  ∀ (kV doc pm : Value) (an : Option Addr) (cdv ct : Value) (us ws : List Value), us.length = n → ws.length = ks.length → bindArgs (PySem.W.fnOf x x (defArgs st) (defBody st) (defScope st) .none kV doc pm an cdv ct) ⟨us, ks.zip ws⟩ = pure (ps.zip (pick is (us ++ ws)))
theorem kbn {K : PySem.W.Frag} {f : Addr} {fd : FuncData} {n : Nat} {ks : List Str} {is : List Nat} (F : Fun K x x st f fd) (h : KwOk x st ps n ks is) : KBn K fd ps n ks (fun us ws => pick is (us ++ ws)) (fun vs zs => pick is (vs ++ zs)) := by
  obtain ⟨oc, od, kV, doc, pm, an, cdv, ct, osl, rfl, lk, hcd⟩ := F.ex
  exact ⟨fun s us ws _ h1 h2 => .of_eq (h kV doc pm an cdv ct us ws h1 h2), fun r1 r2 => pick_vals (Vals.append r1 r2) is⟩
theorem pcallN {j k n : Nat} {ks : List Str} {is : List Nat} (G : Pr X.prog X.w X.K X.mg X.base x st ps j sp) (hk : KwOk x st ps n ks is) (hr : Room k X.A) (ha : PA X (e :: es) t) (hkw : PK X kws tk) (hj : j ≤ k := by first | decide | omega) (hg : Gl X x := by rfl)
    (hall : (backToKw pos (keywordEach kws X.env)).all (·.1.isSome) = true := by rfl) (hks : (backToKw pos (keywordEach kws X.env)).filterMap (·.1) = ks := by rfl)
    (hdb : (x == ("__debug__" : Str)) = false := by decide) (he : starEach (e :: es) X.env = (false, eval e X.env) :: starEach es X.env := by rfl)
    (hpl : ((backTo pos (starEach (e :: es) X.env)).any (·.1) || (backToKw pos (keywordEach kws X.env)).any (·.1.isNone)) = false := by rfl) :
    PE X (.Call (.Name x p) (e :: es) kws pos) (tCallN n ks.length sp (fun vs zs => pick is (vs ++ zs)) (fun _ _ _ => False) t tk) := by
  obtain ⟨f, fd, hm, F0, hb, F⟩ := G
  exact pe_callN F (hr.mono hj) hg hm F0.kp (kbn F0 hk) (fun _ _ _ _ _ _ _ h => h.elim) ha hkw hall hks hdb he hpl
theorem pcallN0 {j k : Nat} {ks : List Str} {is : List Nat} (G : Pr X.prog X.w X.K X.mg X.base x st ps j sp) (hk : KwOk x st ps 0 ks is) (hr : Room k X.A) (hkw : PK X kws tk) (hj : j ≤ k := by first | decide | omega) (hg : Gl X x := by rfl)
    (hall : (backToKw pos (keywordEach kws X.env)).all (·.1.isSome) = true := by rfl) (hks : (backToKw pos (keywordEach kws X.env)).filterMap (·.1) = ks := by rfl)
    (hdb : (x == ("__debug__" : Str)) = false := by decide)
    (hpl : ((backTo pos (starEach [] X.env)).any (·.1) || (backToKw pos (keywordEach kws X.env)).any (·.1.isNone)) = false := by rfl) :
    PE X (.Call (.Name x p) [] kws pos) (tCallN 0 ks.length sp (fun vs zs => pick is (vs ++ zs)) (fun _ _ _ => False) tNil tk) := by
  obtain ⟨f, fd, hm, F0, hb, F⟩ := G
  refine ⟨fun pins s σ H Q I h => ?_⟩
  refine wpAny_Call_Name_kw (ld_glob I hg hm ?_ hdb)
  refine PySem.W.callWith_KW0 (h₀ := X.base) I.ok.mod.kin F0.kp hall ?_ hpl
  refine thn (hkw.run pos pins s σ H _ I h) fun ws s2 ⟨zs, H2, I2, rz, l1, l2, q2⟩ => ⟨I2.kIn, ?_⟩
  rw [hks]
  exact run_fnN (us := []) (vs := []) F (hr.mono hj) (kbn F0 hk) (fun _ _ _ _ _ _ _ h => h.elim) I2 .nil rz rfl l2 q2
theorem pmake {C : Addr} {j k : Nat} (hm : X.mg x = some (.ref C)) (G : PrI X.prog X.w X.K X.mg X.base C ps j sp) (hr : Room k X.A) (ha : PA X (e :: es) t) (hj : j + 1 ≤ k := by first | decide | omega) (hg : Gl X x := by rfl)
    (hdb : (x == ("__debug__" : Str)) = false := by decide) (he : starEach (e :: es) X.env = (false, eval e X.env) :: starEach es X.env := by rfl) (hpl : (backTo pos (starEach es X.env)).any (·.1) = false := by rfl) :
    PE X (.Call (.Name x p) (e :: es) [] pos) (tMake C sp [] (fun _ _ _ => False) t) := by
  obtain ⟨f, fd, M, hb, F⟩ := G
  exact pe_make M F (hr.mono hj) hg hm hb .nil (fun _ _ _ _ _ _ _ h => h.elim) ha hdb he hpl
theorem pgI {i : Int} (h : ∃ t, X.mg x = some (.int i t)) (hg : Gl X x := by rfl) (hd : (x == ("__debug__" : Str)) = false := by decide) : PE X (.Name x p) (tC (.int i)) := by
  obtain ⟨t, h⟩ := h
  exact pe_glob hg h ⟨t, rfl⟩ hd
theorem pgS {z : Str} (h : ∃ t, X.mg x = some (.str z t)) (hg : Gl X x := by rfl) (hd : (x == ("__debug__" : Str)) = false := by decide) : PE X (.Name x p) (tC (.str z)) := by
  obtain ⟨t, h⟩ := h
  exact pe_glob hg h ⟨t, rfl⟩ hd
end
end Eyes

set_option Elab.async false
set_option linter.all false
set_option maxRecDepth 100000
set_option maxHeartbeats 4000000
/-! Rules of my own: operators, str() and f-strings of own instances; list(d.values()). -/
namespace Eyes
open PySem PySem.Spec PyProof.Rows L2
section
variable {X : Cx} {CX : CXT} {k : Nat} {f : Addr} {fd : FuncData} {ps : List Str} {sp : Sp} {E : XK}
theorem run_at (F : FnOk X.prog X.w X.K X.mg X.base CX k f fd ps sp) (hb : Binds X.K fd ps []) (hx : Passes CX X E) {A : Around} (hr : Room k A) (hfr : A.frames = X.A.frames) {pins : List (Addr × Obj)} {σ : L2.St} {H : Hp} {s : Shared} {vs : List V} {us : List Value} {Q : VK}
    {R : Value → Shared → Prop} (I : Inv X pins σ H s) (r : Vals vs us) (h : sp vs H Q E) (hq : ∀ v u s' H', Inv X pins σ H' s' → RelV v u → Q v H' → R u s') : wpAny (model X.prog X.w) A (call (.ref f) us) R X.xe s := by
  have e0 : Env0 X.prog X.w X.K X.mg X.base A X.stack s H := by
    have e := I.env0
    exact ⟨by rw [hfr]; exact e.frames, e.mod, e.bs, e.bsz, e.funs, e.frf, e.hok, e.bare⟩
  have hl := F.len _ _ _ _ h
  have hlu : us.length = ps.length := r.length.symm.trans hl
  refine wpAny_call (codeAny_mono (F.run A X.stack s H ⟨us, []⟩ us vs Q E hr e0 (by
    have := hb s us I.kIn (by simpa using hlu)
    simpa using this) r h) fun r s' hq' => ?_)
  cases r with
  | error e => exact hx pins σ H s e s' I hq'
  | ok fl =>
    cases fl with
    | ret w =>
      obtain ⟨z, H', I', rz, ez⟩ := I.after hq'
      exact hq z w s' H' I' rz ez
    | next => exact False.elim hq'
    | brk => exact False.elim hq'
    | cont => exact False.elim hq'
end
theorem cmpBack_of {v : V} {u : Value} {s : Shared} {Q : Value → Shared → Prop} (r : RelV v u) (q : Q u s) : PySem.W.CmpBack Q u s := by
  cases v with
  | non => cases (show u = Value.none from r); exact q
  | bl b => cases (show u = Value.bool b from r); exact q
  | int i => obtain ⟨t, rfl⟩ := r; exact q
  | str i => obtain ⟨t, rfl⟩ := r; exact q
  | byt i => obtain ⟨t, rfl⟩ := r; exact q
  | flt i => obtain ⟨t, rfl⟩ := r; exact q
  | ref a => cases (show u = Value.ref a from r); exact q
  | ty n => cases (show u = Value.type n from r); exact q
def rOwnB (C : Addr) (sp : Sp) : R2 := fun x y H Q => ∃ a b dx dy fs gs, x = .ref a ∧ y = .ref b ∧ H a = some (.ins C dx fs) ∧ H b = some (.ins C dy gs) ∧ sp [.ref a, .ref b] H Q (fun _ _ _ => False)
def rOwnStr (C : Addr) (sp : Sp) : List V → Hp → VK → Prop := fun xs H Q => ∃ a dx fs, xs = [.ref a] ∧ H a = some (.ins C dx fs) ∧ sp [.ref a] H (fun v H' => ∃ z, v = .str z ∧ Q v H') (fun _ _ _ => False)
section
variable {X : Cx} {C : Addr} {j k : Nat} {ps : List Str} {sp : Sp} {nm : Str}
theorem op_ownB {op : Operator} (hc : PySem.W.selfFirst X.K C = true) (G : PrM X.prog X.w X.K X.mg X.base C (PySem.dunder op.info.2) ps j sp) (hr : Room k X.A) (hj : j ≤ k := by first | decide | omega) : OpR X (binaryOp op) (rOwnB C sp) := by
  intro pins s σ H x y v u Q I rx ry h
  obtain ⟨f, fd, M, hb, F⟩ := G
  obtain ⟨a, b, dx, dy, fs, gs, rfl, rfl, ha, hb', q⟩ := h
  cases rx
  cases ry
  obtain ⟨mA, J, _⟩ := ins_get I.hok ha
  obtain ⟨mB, J', _⟩ := ins_get I.hok hb'
  obtain ⟨od, J, _⟩ := J.look
  obtain ⟨od', J', _⟩ := J'.look
  obtain ⟨m, hF⟩ := I.fr
  refine PySem.W.binop_K hF I.ok.mod.kin J J'.type hc M.at_ M.fn ?_
  exact run_at F hb (fun _ _ _ _ _ _ _ h => h.elim) (hr.mono hj) rfl I (vs := [.ref a, .ref b]) (.cons rfl (.cons rfl .nil)) q fun v u s' H' I' rv qv => cmpBack_of rv ⟨v, H', I', rv, qv⟩
theorem call_strOwn (G : PrM X.prog X.w X.K X.mg X.base C "__str__" ps j sp) (hr : Room k X.A) (hj : j + 2 ≤ k := by first | decide | omega) : CallR X (.type "str") (rOwnStr C sp) := by
  intro pins s σ H xs us Q I r h
  obtain ⟨f, fd, M, hb, F⟩ := G
  obtain ⟨a, dx, fs, rfl, ha, q⟩ := h
  obtain ⟨u, rfl, ru⟩ := vals1 r
  cases ru
  obtain ⟨mA, J, _⟩ := ins_get I.hok ha
  obtain ⟨od, J, _⟩ := J.look
  have hr2 : Room j X.A.in1.in1 := (hr.mono hj).in1.in1
  refine PySem.W.kso_call hr2.units0 I.kIn J M.at_ M.fn ?_
  refine run_at F hb (fun _ _ _ _ _ _ _ h => h.elim) hr2 rfl I (vs := [.ref a]) (.cons rfl .nil) q fun v u s' H' I' rv qv => ?_
  obtain ⟨z, rfl, qv⟩ := qv
  obtain ⟨t, rfl⟩ := rv
  exact ⟨.str z, H', I', ⟨t, rfl⟩, qv⟩
theorem pe_fmtOwn {e : Expr} {te : TE} {pos : Pos} (G : PrM X.prog X.w X.K X.mg X.base C "__str__" ps j sp) (hr : Room k X.A) (he : PE X e te) (hj : j ≤ k := by first | decide | omega) :
    PE X (.FormattedValue e 115 none pos) (fun σ H Q => te σ H fun x H1 => ∃ a dx fs, x = .ref a ∧ H1 a = some (.ins C dx fs) ∧ sp [.ref a] H1 (fun v H' => ∃ z, v = .str z ∧ z.length ≤ sizeLine ∧ Q v H') (fun _ _ _ => False)) := by
  refine ⟨fun pins s σ H Q I h => ?_⟩
  obtain ⟨f, fd, M, hb, F⟩ := G
  refine wpAny_FormattedValue_s (thn (he.run pins s σ H _ I h) fun v s1 hv => ?_)
  obtain ⟨x, H1, I1, r1, a, dx, fs, rfl, ha, q⟩ := hv
  cases r1
  obtain ⟨mA, J, _⟩ := ins_get I1.hok ha
  obtain ⟨od, J, _⟩ := J.look
  have hrj := hr.mono hj
  show wpAny _ _ (pyStrObj (.ref a)) _ _ _
  refine PySem.W.kfo_str hrj.units0 I1.kIn J M.at_ M.fn ?_
  refine run_at F hb (fun _ _ _ _ _ _ _ h => h.elim) hrj rfl I1 (vs := [.ref a]) (.cons rfl .nil) q fun v u s' H' I' rv qv => ?_
  obtain ⟨z, rfl, hz, qv⟩ := qv
  obtain ⟨t, rfl⟩ := rv
  exact wpAny_formatField_str ⟨.str z, H', I', ⟨t, rfl⟩, qv⟩ ⟨.str z, H', I'.tok _, ⟨_, rfl⟩, qv⟩ hz
end
section
variable {X : Cx} {C : Addr} {j k : Nat} {ps : List Str} {sp : Sp} {m : Str} {o e : Expr} {es : List Expr} {apos pos : Pos} {ta : TE} {t : TA}
theorem pmeth {pl : Sem Bool} (c : Cls X.K C) (G : PrM X.prog X.w X.K X.mg X.base C m ps j sp) (hr : Room k X.A) (he : PE X o ta) (ha : PA X (e :: es) t) (hj : j ≤ k := by first | decide | omega)
    (hst : starEach (e :: es) X.env = (false, eval e X.env) :: starEach es X.env := by rfl) (hpl : (backTo pos (starEach es X.env)).any (·.1) = false := by rfl)
    (ht : eval (.Call (.Attribute o m apos) (e :: es) [] pos) X.env = (do
      let ov ← eval o X.env
      standAt apos.atName
      let (f, first) ← holding [ov] (getMethod ov m pl)
      callWith pos f first (backTo pos (starEach (e :: es) X.env)) (backToKw pos (keywordEach [] X.env))) := by rfl) :
    PE X (.Call (.Attribute o m apos) (e :: es) [] pos) (tMeth C m sp [] (fun _ _ _ => False) ta t) := by
  obtain ⟨f, fd, M, hb, F⟩ := G
  exact pe_meth he c M F (hr.mono hj) hb .nil (fun _ _ _ _ _ _ _ h => h.elim) ha hst hpl ht
theorem pmeth0 {pl : Sem Bool} (c : Cls X.K C) (G : PrM X.prog X.w X.K X.mg X.base C m ps j sp) (hr : Room k X.A) (he : PE X o ta) (hj : j ≤ k := by first | decide | omega)
    (ht : eval (.Call (.Attribute o m apos) [] [] pos) X.env = (do
      let ov ← eval o X.env
      standAt apos.atName
      let (f, first) ← holding [ov] (getMethod ov m pl)
      callWith pos f first (backTo pos (starEach [] X.env)) (backToKw pos (keywordEach [] X.env))) := by rfl) :
    PE X (.Call (.Attribute o m apos) [] [] pos) (tMeth C m sp [] (fun _ _ _ => False) ta tNil) := by
  obtain ⟨f, fd, M, hb, F⟩ := G
  exact pe_meth0 he c M F (hr.mono hj) hb .nil (fun _ _ _ _ _ _ _ h => h.elim) ht
end
def tListVals (te : TE) : TE := fun σ H Q => te σ H fun x H1 => ∃ (d : Addr) (kvs : List (Key × V)), x = .ref d ∧ H1 d = some (.dK kvs) ∧ ∀ l, H1 l = none → Q (.ref l) (upd H1 l (.lst (kvs.map (·.2))))
section
variable {X : Cx} {e : Expr} {te : TE} {p apos cpos pos : Pos}
theorem vals_of_kv {kvs : List (Key × V)} {vs : List (Key × Value)} (kv : KV kvs vs) : Vals (kvs.map (·.2)) (vs.map (·.2)) := by
  unfold KV at kv
  induction kv with
  | nil => exact .nil
  | cons h _ ih => exact .cons h.2 ih
theorem pe_listVals (hc : X.calm = true) (he : PE X e te) (hg : Gl X "list") (hm : X.mg "list" = none) (hbase : attributeBase e "values" X.env (eval e X.env) = eval e X.env := by rfl) (hline : (apos.endLine == cpos.line) = true := by rfl)
    (hs : starEach [.Call (.Attribute e "values" apos) [] [] cpos] X.env = (false, eval (.Call (.Attribute e "values" apos) [] [] cpos) X.env) :: starEach [] X.env := by rfl) :
    PE X (.Call (.Name "list" p) [.Call (.Attribute e "values" apos) [] [] cpos] [] pos) (tListVals te) := by
  refine ⟨fun pins s σ H Q I hq => ?_⟩
  refine wpAny_Call_Name_kw (ld_blt I hg hm PyProof.Rows.boot_list ?_)
  refine PyProof.Rows.callWith_type1 ?_ hs rfl
  rw [hs]
  show wpAny _ _ (spliced ((false, eval (.Call (.Attribute e "values" apos) [] [] cpos) X.env) :: backTo pos (starEach [] X.env))) _ _ s
  refine Calls.spliced_cons ?_
  refine wpAny_Call_method (T := "dict") (id := "dict.values") hbase rfl hline F.plainAttrs_dict F.slot_dict_values F.type_dict_values (thn (he.run pins s σ H _ I hq) fun u s1 ⟨x, H1, I1, rx, d, kvs, ex, hd, q⟩ => ?_)
  subst ex
  obtain rfl : u = Value.ref d := rx
  obtain ⟨hz, hs0, vs, kv, hdo⟩ := I1.hok d _ hd
  obtain ⟨ep, hat⟩ := hdo.dictAt
  have lk : kvs.length = vs.length := Paired.length kv
  have I2 : Inv X pins σ H1 { s1 with heap := s1.heap.push { cls := .type "dict_values", data := .fields #[.ref d] } } := I1.kept (t' := s1.toks) fun b ob q => Heap.get?_push_of_some _ q
  refine ⟨hdo.typeIs, hdo.mapOf.noDict, ?_⟩
  show wpAny _ _ (callWith cpos (.builtin "dict.values") [.ref d] [] []) _ X.xe s1
  refine method_meetsIn F.slot_dict_values F.entry_dict_values rfl (PySem.evalArgs_none ⟨rfl, hdo.typeIs, F.args_dict_values_1 _, _, meets_dict_values (mixKind X.prog X.w) d hs0, ⟨vs, hdo⟩, ?_⟩)
  refine Calls.spliced_nil ?_
  refine PySem.W.kdl_call (PySem.W.kdl_values (knd := mixKind X.prog X.w) (kvs := vs) (ep := ep)) (I1.ok.hd hc) ⟨⟨_, Heap.get?_push_size _ rfl, rfl, rfl⟩, hat.push _⟩ (by omega) fun h' tk acc c hk hS hacc => ?_
  have eacc : acc.toList = vs.map (·.2) := by
    refine List.ext_getElem? fun i => ?_
    rw [Array.getElem?_toList, List.getElem?_map]
    cases h : acc[i]? with
    | none =>
      have : vs.length ≤ i := by
        rw [← hacc.1]
        exact Array.getElem?_eq_none_iff.mp h
      rw [List.getElem?_eq_none this]
      rfl
    | some v =>
      obtain ⟨k, hk⟩ := hacc.2 i v h
      rw [hk]
      rfl
  have hS0 : h'.get? (s1.heap.push { cls := .type "dict_values", data := .fields #[.ref d] }).objs.size = some { cls := .type "list", data := .seq (vs.map (·.2)).toArray c } := by
    rw [← eacc, Array.toArray_toList]
    exact hS
  refine ⟨.ref _, _, I2.laid (t' := tk) (o := .lst (kvs.map (·.2))) hk (Nat.le_refl _) ⟨by rw [List.length_map]; exact hz, _, c, vals_of_kv kv, hS0⟩, rfl, q _ (I2.hok.fresh (Nat.le_refl _))⟩
end
theorem pe_fldK {X : Cx} {K : PySem.W.Frag} {e : Expr} {ta : TE} {f : Str} {pos : Pos} (hK : X.K = K) (he : PE X e ta) (hb : attributeBase e f X.env (eval e X.env) = eval e X.env) : PE X (.Attribute e f pos) (tFld K ta f) := by
  subst hK
  exact pe_fld he hb
theorem u65 {A : Around} {k : Nat} (hr : Room k A) : A.units + 65 < cLine := by
  have := hr.un
  omega
section
variable {X : Cx} {K : PySem.W.Frag}
theorem ix_listK (hK : X.K = K) : IxR X (rIxL K) := by
  subst hK
  exact ix_list
theorem ix_tupK (hK : X.K = K) : IxR X (rIxT K) := by
  subst hK
  exact ix_tup
theorem ix_seqK (hK : X.K = K) : IxR X (rIx K) := by
  subst hK
  exact ix_seq
end
section
variable {X : Cx} {K : PySem.W.Frag}
theorem op_in_seqK (hK : X.K = K) : OpR X (compareOp .In) (rIn K false) := by
  subst hK
  exact op_in_seq
theorem op_notIn_seqK (hK : X.K = K) : OpR X (compareOp .NotIn) (rIn K true) := by
  subst hK
  exact op_notIn_seq
end
end Eyes

set_option Elab.async false
set_option linter.all false
set_option maxRecDepth 100000
set_option maxHeartbeats 4000000
/-! Circles as data: texts, sizes, depths; how they are built; how they stand in the heap. -/
namespace Eyes
open PySem PySem.Spec PyProof.Rows L2 Evl TL
inductive Ci where
  | eye (n : Str)
  | node (k : Bool) (ps : List Ci)
def sepS : Bool → Str | true => " & " | false => " | "
def kindS : Bool → Str | true => "pool" | false => "common"
def wrapL (c : Ci) (t : List Nat) : List Nat := match c with
  | .eye _ => t
  | .node _ _ => 40 :: (t ++ [41])
mutual
def Ci.tx : Ci → List Nat
  | .eye n => tl n
  | .node k ps => joinL (tl (sepS k)) (inns ps)
def inns : List Ci → List (List Nat)
  | [] => []
  | c :: r => wrapL c c.tx :: inns r
end
mutual
def Ci.size : Ci → Nat
  | .eye _ => 1
  | .node _ ps => sizes ps
def sizes : List Ci → Nat
  | [] => 0
  | c :: r => c.size + sizes r
end
mutual
def Ci.depth : Ci → Nat
  | .eye _ => 0
  | .node _ ps => 1 + depths ps
def depths : List Ci → Nat
  | [] => 0
  | c :: r => max c.depth (depths r)
end
def Ci.str (c : Ci) : Str := ⟨c.tx.toArray⟩
def Ci.kind : Ci → Str | .eye _ => "eye" | .node k _ => kindS k
def Ci.name : Ci → Str | .eye n => n | .node _ _ => ""
def Ci.parts : Ci → List Ci | .eye _ => [] | .node _ ps => ps
def Ci.isK (k : Bool) : Ci → Bool | .eye _ => false | .node j _ => j == k
theorem tl_str (c : Ci) : tl c.str = c.tx := rfl
theorem str_eye (n : Str) : (Ci.eye n).str = n := ext_tl rfl
theorem inns_map : ∀ ps : List Ci, inns ps = ps.map fun c => wrapL c c.tx
  | [] => rfl
  | c :: r => by
    show wrapL c c.tx :: inns r = _
    rw [inns_map r]
    rfl
theorem sizes_sum : ∀ ps : List Ci, (sizes ps : Int) = (ps.map fun c => (c.size : Int)).sum
  | [] => rfl
  | c :: r => by
    show ((c.size + sizes r : Nat) : Int) = _
    rw [List.map_cons, List.sum_cons, ← sizes_sum r]
    omega
theorem depths_le : ∀ {ps : List Ci} {c : Ci}, c ∈ ps → c.depth ≤ depths ps
  | d :: r, c, h => by
    show c.depth ≤ max d.depth (depths r)
    rcases List.mem_cons.mp h with rfl | h
    · exact Nat.le_max_left _ _
    · exact Nat.le_trans (depths_le h) (Nat.le_max_right _ _)
theorem depths_mem : ∀ {ps : List Ci}, ps ≠ [] → ∃ c ∈ ps, depths ps = c.depth
  | [d], _ => ⟨d, List.mem_cons_self, by show max d.depth 0 = d.depth; omega⟩
  | d :: e :: r, _ => by
    obtain ⟨c, hc, h⟩ := depths_mem (ps := e :: r) (by simp)
    show ∃ c ∈ d :: e :: r, max d.depth (depths (e :: r)) = c.depth
    rcases Nat.le_total d.depth (depths (e :: r)) with g | g
    · exact ⟨c, List.mem_cons_of_mem _ hc, by rw [Nat.max_eq_right g, h]⟩
    · exact ⟨d, List.mem_cons_self, Nat.max_eq_left g⟩
/-! ### building -/
def flat (k : Bool) : List Ci → List Ci
  | [] => []
  | c :: r => (if c.isK k = true then c.parts else [c]) ++ flat k r
def dd : List Ci → List Ci → List Ci
  | acc, [] => acc
  | acc, c :: r => if acc.any (fun d => decide (d.str = c.str)) = true then dd acc r else dd (acc ++ [c]) r
def wrapK (k : Bool) : List Ci → Ci
  | [c] => c
  | ps => .node k ps
def mkC (k : Bool) (cs : List Ci) : Ci := wrapK k (dd [] (flat k cs))
/-! ### what is well made: names of letters, two parts or more -/
def nm (n : Str) : Prop := 1 ≤ n.length ∧ n.length ≤ 6 ∧ ∀ x ∈ tl n, 97 ≤ x ∧ x ≤ 122
mutual
def Ci.ok : Ci → Prop
  | .eye n => nm n
  | .node _ ps => 2 ≤ ps.length ∧ oks ps
def oks : List Ci → Prop
  | [] => True
  | c :: r => c.ok ∧ oks r
end
theorem oks_mem : ∀ {ps : List Ci}, oks ps ↔ ∀ c ∈ ps, c.ok
  | [] => ⟨fun _ _ h => (nomatch h), fun _ => True.intro⟩
  | c :: r => by
    show c.ok ∧ oks r ↔ _
    rw [oks_mem (ps := r)]
    constructor
    · rintro ⟨h1, h2⟩ d hd
      rcases List.mem_cons.mp hd with rfl | hd
      · exact h1
      · exact h2 d hd
    · intro h
      exact ⟨h c List.mem_cons_self, fun d hd => h d (List.mem_cons_of_mem _ hd)⟩
theorem joinL_len (S : List Nat) : ∀ l : List (List Nat), (joinL S l).length + S.length * (if l = [] then 0 else 1) = (l.map List.length).sum + S.length * l.length
  | [] => rfl
  | [p] => by simp [joinL]
  | p :: q :: r => by
    have ih := joinL_len S (q :: r)
    show (p ++ (S ++ joinL S (q :: r))).length + _ = _
    rw [if_neg (by simp)] at ih ⊢
    rw [List.length_append, List.length_append, List.map_cons, List.sum_cons]
    have e : S.length * (p :: q :: r).length = S.length * (q :: r).length + S.length := by rw [List.length_cons, Nat.mul_succ]
    rw [e]
    omega
mutual
theorem Ci.tx_len : ∀ c : Ci, c.ok → c.tx.length + 7 ≤ 13 * c.size
  | .eye n, h => by
    have h : n.length ≤ 6 := h.2.1
    show (tl n).length + 7 ≤ 13 * 1
    rw [← len_tl]
    omega
  | .node k ps, h => by
    have h1 : 2 ≤ ps.length := h.1
    have h2 := inns_len ps h.2
    show (joinL (tl (sepS k)) (inns ps)).length + 7 ≤ 13 * sizes ps
    have h3 := joinL_len (tl (sepS k)) (inns ps)
    have h4 : (tl (sepS k)).length = 3 := by cases k <;> decide +kernel
    have h5 : (inns ps).length = ps.length := by rw [inns_map, List.length_map]
    rw [if_neg (by intro e; rw [e] at h5; simp at h5; omega), h4, h5] at h3
    omega
theorem inns_len : ∀ ps : List Ci, oks ps → ((inns ps).map List.length).sum + 5 * ps.length ≤ 13 * sizes ps
  | [], _ => by simp [inns, sizes]
  | c :: r, h => by
    have h1 := Ci.tx_len c h.1
    have h2 := inns_len r h.2
    show ((wrapL c c.tx :: inns r).map List.length).sum + 5 * (r.length + 1) ≤ 13 * (c.size + sizes r)
    rw [List.map_cons, List.sum_cons]
    have h3 : (wrapL c c.tx).length ≤ c.tx.length + 2 := by
      cases c with
      | eye n => exact Nat.le_add_right _ _
      | node k ps => show (40 :: (_ ++ [41])).length ≤ _; rw [List.length_cons, List.length_append]; exact Nat.le_refl _
    omega
end
theorem str_len {c : Ci} (h : c.ok) : c.str.length + 7 ≤ 13 * c.size := by
  rw [len_tl, tl_str]
  exact c.tx_len h
mutual
theorem Ci.size_pos : ∀ c : Ci, c.ok → 1 ≤ c.size
  | .eye n, _ => Nat.le_refl _
  | .node k ps, h => Nat.le_trans (Nat.le_trans (by decide) h.1) (sizes_len ps h.2)
theorem sizes_len : ∀ ps : List Ci, oks ps → ps.length ≤ sizes ps
  | [], _ => Nat.zero_le _
  | c :: r, h => by
    have h1 := Ci.size_pos c h.1
    have h2 := sizes_len r h.2
    show r.length + 1 ≤ c.size + sizes r
    omega
end
/-! ### in the heap -/
def flds (kind name : Str) (l : Addr) (s d : Int) (t : Str) : List (Str × V) :=
  putF "_text" (.str t) (putF "depth" (.int d) (putF "size" (.int s) (putF "_parts" (.ref l) (putF "name" (.str name) (putF "kind" (.str kind) [])))))
section
variable {kind name t : Str} {l : Addr} {s d : Int}
theorem fl_text : (flds kind name l s d t).lookup ("_text" : Str) = some (.str t) := by
  unfold flds
  rw [lookup_putF, if_pos rfl]
theorem fl_depth : (flds kind name l s d t).lookup ("depth" : Str) = some (.int d) := by
  unfold flds
  rw [lookup_putF, if_neg (by decide +kernel), lookup_putF, if_pos rfl]
theorem fl_size : (flds kind name l s d t).lookup ("size" : Str) = some (.int s) := by
  unfold flds
  rw [lookup_putF, if_neg (by decide +kernel), lookup_putF, if_neg (by decide +kernel), lookup_putF, if_pos rfl]
theorem fl_parts : (flds kind name l s d t).lookup ("_parts" : Str) = some (.ref l) := by
  unfold flds
  rw [lookup_putF, if_neg (by decide +kernel), lookup_putF, if_neg (by decide +kernel), lookup_putF, if_neg (by decide +kernel), lookup_putF, if_pos rfl]
theorem fl_name : (flds kind name l s d t).lookup ("name" : Str) = some (.str name) := by
  unfold flds
  rw [lookup_putF, if_neg (by decide +kernel), lookup_putF, if_neg (by decide +kernel), lookup_putF, if_neg (by decide +kernel), lookup_putF, if_neg (by decide +kernel), lookup_putF, if_pos rfl]
theorem fl_kind : (flds kind name l s d t).lookup ("kind" : Str) = some (.str kind) := by
  unfold flds
  rw [lookup_putF, if_neg (by decide +kernel), lookup_putF, if_neg (by decide +kernel), lookup_putF, if_neg (by decide +kernel), lookup_putF, if_neg (by decide +kernel), lookup_putF, if_neg (by decide +kernel), lookup_putF, if_pos rfl]
theorem fl_no {m : Str} (h1 : ¬ m = ("_text" : Str)) (h2 : ¬ m = ("depth" : Str)) (h3 : ¬ m = ("size" : Str)) (h4 : ¬ m = ("_parts" : Str)) (h5 : ¬ m = ("name" : Str)) (h6 : ¬ m = ("kind" : Str)) : (flds kind name l s d t).lookup m = none := by
  unfold flds
  rw [lookup_putF, if_neg h1, lookup_putF, if_neg h2, lookup_putF, if_neg h3, lookup_putF, if_neg h4, lookup_putF, if_neg h5, lookup_putF, if_neg h6]
  rfl
end
mutual
inductive CiAt (C : Addr) (H : Hp) : V → Ci → Prop
  | mk {p dx l : Addr} {vs : List V} {c : Ci} {ps : List Ci} : ps = c.parts → H p = some (.ins C dx (flds c.kind c.name l c.size c.depth c.str)) → H l = some (.lst vs) → CisAt C H vs ps → CiAt C H (.ref p) c
inductive CisAt (C : Addr) (H : Hp) : List V → List Ci → Prop
  | nil : CisAt C H [] []
  | cons {v : V} {vs : List V} {c : Ci} {cs : List Ci} : CiAt C H v c → CisAt C H vs cs → CisAt C H (v :: vs) (c :: cs)
end
mutual
theorem CiAt.mono {C : Addr} {H H' : Hp} (e : Ex H H') : ∀ {v : V} {c : Ci}, CiAt C H v c → CiAt C H' v c
  | _, _, .mk h0 h1 h2 h3 => .mk h0 (e _ _ h1) (e _ _ h2) (CisAt.mono e h3)
theorem CisAt.mono {C : Addr} {H H' : Hp} (e : Ex H H') : ∀ {vs : List V} {cs : List Ci}, CisAt C H vs cs → CisAt C H' vs cs
  | _, _, .nil => .nil
  | _, _, .cons h r => .cons (CiAt.mono e h) (CisAt.mono e r)
end
section
variable {C : Addr} {H : Hp}
theorem CisAt.length : ∀ {vs : List V} {cs : List Ci}, CisAt C H vs cs → vs.length = cs.length
  | _, _, .nil => rfl
  | _, _, .cons _ r => congrArg Nat.succ (CisAt.length r)
theorem CisAt.get : ∀ {vs : List V} {cs : List Ci} {i : Nat} {v : V}, CisAt C H vs cs → vs[i]? = some v → ∃ c, cs[i]? = some c ∧ CiAt C H v c
  | _, _, _, _, .nil, e => by simp at e
  | _, _, 0, _, .cons h _, e => by
    simp at e
    subst e
    exact ⟨_, rfl, h⟩
  | _, _, i + 1, v, .cons _ r, e => by
    obtain ⟨c, h1, h2⟩ := CisAt.get (i := i) (v := v) r (by simpa using e)
    exact ⟨c, by simpa using h1, h2⟩
theorem CisAt.append : ∀ {vs ws : List V} {cs ds : List Ci}, CisAt C H vs cs → CisAt C H ws ds → CisAt C H (vs ++ ws) (cs ++ ds)
  | _, _, _, _, .nil, s => s
  | _, _, _, _, .cons h r, s => .cons h (CisAt.append r s)
theorem CisAt.one {v : V} {c : Ci} (h : CiAt C H v c) : CisAt C H [v] [c] := .cons h .nil
theorem CiAt.at_ {v : V} {c : Ci} (h : CiAt C H v c) : ∃ p dx l vs, v = .ref p ∧ H p = some (.ins C dx (flds c.kind c.name l c.size c.depth c.str)) ∧ H l = some (.lst vs) ∧ CisAt C H vs c.parts := by
  cases h with
  | mk h0 h1 h2 h3 =>
    subst h0
    exact ⟨_, _, _, _, rfl, h1, h2, h3⟩
end
/-! ### facts about building -/
theorem flat_append (k : Bool) : ∀ a b : List Ci, flat k (a ++ b) = flat k a ++ flat k b
  | [], _ => rfl
  | c :: r, b => by
    show _ ++ flat k (r ++ b) = (_ ++ flat k r) ++ flat k b
    rw [flat_append k r b, List.append_assoc]
theorem flat_len_take (k : Bool) (cs : List Ci) (i : Nat) : (flat k (cs.take i)).length ≤ (flat k cs).length := by
  have h : flat k cs = flat k (cs.take i) ++ flat k (cs.drop i) := by rw [← flat_append, List.take_append_drop]
  rw [h, List.length_append]
  exact Nat.le_add_right _ _
theorem dd_snoc (c : Ci) : ∀ (acc cs : List Ci), dd acc (cs ++ [c]) = if (dd acc cs).any (fun d => decide (d.str = c.str)) = true then dd acc cs else dd acc cs ++ [c]
  | _, [] => rfl
  | acc, e :: r => by
    show dd acc (e :: (r ++ [c])) = _
    unfold dd
    by_cases h : acc.any (fun d => decide (d.str = e.str)) = true
    · rw [if_pos h, if_pos h]
      exact dd_snoc c acc r
    · rw [if_neg h, if_neg h]
      exact dd_snoc c _ r
theorem dd_sub : ∀ {acc cs : List Ci} {d : Ci}, d ∈ dd acc cs → d ∈ acc ∨ d ∈ cs
  | acc, [], d, h => .inl h
  | acc, e :: r, d, h => by
    unfold dd at h
    by_cases g : acc.any (fun d => decide (d.str = e.str)) = true
    · rw [if_pos g] at h
      exact (dd_sub h).imp_right (List.mem_cons_of_mem _)
    · rw [if_neg g] at h
      rcases dd_sub h with h | h
      · rcases List.mem_append.mp h with h | h
        · exact .inl h
        · rw [List.mem_singleton.mp h]
          exact .inr List.mem_cons_self
      · exact .inr (List.mem_cons_of_mem _ h)
theorem dd_len : ∀ {acc cs : List Ci}, (dd acc cs).length ≤ acc.length + cs.length
  | acc, [] => Nat.le_refl _
  | acc, e :: r => by
    unfold dd
    by_cases g : acc.any (fun d => decide (d.str = e.str)) = true
    · rw [if_pos g]
      have := dd_len (acc := acc) (cs := r)
      rw [List.length_cons]
      omega
    · rw [if_neg g]
      have := dd_len (acc := acc ++ [e]) (cs := r)
      rw [List.length_append, List.length_singleton] at this
      rw [List.length_cons]
      omega
theorem dd_ge : ∀ {acc cs : List Ci}, acc.length ≤ (dd acc cs).length
  | acc, [] => Nat.le_refl _
  | acc, e :: r => by
    unfold dd
    by_cases g : acc.any (fun d => decide (d.str = e.str)) = true
    · rw [if_pos g]
      exact dd_ge
    · rw [if_neg g]
      have := dd_ge (acc := acc ++ [e]) (cs := r)
      rw [List.length_append, List.length_singleton] at this
      omega
theorem dd_ne {cs : List Ci} (h : cs ≠ []) : dd [] cs ≠ [] := by
  cases cs with
  | nil => exact absurd rfl h
  | cons e r =>
    have := dd_ge (acc := [e]) (cs := r)
    intro g
    have g2 : dd [e] r = [] := g
    rw [g2] at this
    exact absurd this (by simp)
def Ci.fine (c : Ci) : Prop := c.ok ∧ c.size ≤ 60
theorem sizes_mem : ∀ {ps : List Ci} {c : Ci}, c ∈ ps → c.size ≤ sizes ps
  | d :: r, c, h => by
    show c.size ≤ d.size + sizes r
    rcases List.mem_cons.mp h with rfl | h
    · omega
    · have := sizes_mem h
      omega
theorem parts_fine {c d : Ci} (h : c.fine) (hd : d ∈ c.parts) : d.fine := by
  cases c with
  | eye n => exact absurd hd (by intro h; cases h)
  | node k ps =>
    have hd : d ∈ ps := hd
    have h2 : sizes ps ≤ 60 := h.2
    exact ⟨oks_mem.mp h.1.2 d hd, Nat.le_trans (sizes_mem hd) h2⟩
theorem flat_fine {k : Bool} : ∀ {cs : List Ci}, (∀ c ∈ cs, c.fine) → ∀ d ∈ flat k cs, d.fine
  | [], _, d, hd => by cases hd
  | c :: r, h, d, hd => by
    unfold flat at hd
    rcases List.mem_append.mp hd with hd | hd
    · by_cases g : c.isK k = true
      · rw [if_pos g] at hd
        exact parts_fine (h c List.mem_cons_self) hd
      · rw [if_neg g] at hd
        rw [List.mem_singleton.mp hd]
        exact h c List.mem_cons_self
    · exact flat_fine (fun e he => h e (List.mem_cons_of_mem _ he)) d hd
theorem parts_len {c : Ci} (h : c.fine) : c.parts.length ≤ 60 := by
  cases c with
  | eye n => exact Nat.zero_le _
  | node k ps => exact Nat.le_trans (sizes_len ps h.1.2) h.2
theorem flat_len {k : Bool} : ∀ {cs : List Ci}, (∀ c ∈ cs, c.fine) → (flat k cs).length ≤ 60 * cs.length
  | [], _ => Nat.le_refl _
  | c :: r, h => by
    unfold flat
    have h1 := flat_len (k := k) (cs := r) fun e he => h e (List.mem_cons_of_mem _ he)
    have h2 := parts_len (h c List.mem_cons_self)
    rw [List.length_append, List.length_cons]
    by_cases g : c.isK k = true
    · rw [if_pos g]
      omega
    · rw [if_neg g, List.length_singleton]
      omega
theorem flat_ne {k : Bool} {cs : List Ci} (hf : ∀ c ∈ cs, c.ok) (h : cs ≠ []) : flat k cs ≠ [] := by
  cases cs with
  | nil => exact absurd rfl h
  | cons c r =>
    intro g
    have g2 : (if c.isK k = true then c.parts else [c]) = [] := (List.append_eq_nil_iff.mp g).1
    by_cases e : c.isK k = true
    · rw [if_pos e] at g2
      have := hf c List.mem_cons_self
      cases c with
      | eye n => cases e
      | node j ps =>
        have h2 : 2 ≤ ps.length := this.1
        have g2 : ps = [] := g2
        rw [g2] at h2
        exact absurd h2 (by decide)
    · rw [if_neg e] at g2
      cases g2
theorem fine_len {c : Ci} (h : c.fine) : c.str.length ≤ 800 := by
  have := str_len h.1
  have := h.2
  omega
def pts (k : Bool) (cs : List Ci) : List Ci := dd [] (flat k cs)
theorem mkC_one {k : Bool} {cs : List Ci} {c : Ci} (h : pts k cs = [c]) : mkC k cs = c := by
  show wrapK k (pts k cs) = c
  rw [h]
  rfl
theorem mkC_more {k : Bool} {cs : List Ci} (h : (pts k cs).length ≠ 1) : mkC k cs = .node k (pts k cs) := by
  show wrapK k (pts k cs) = _
  generalize pts k cs = l at h
  match l, h with
  | [], _ => rfl
  | [c], h => exact absurd rfl h
  | c :: d :: r, _ => rfl
structure Good (k : Bool) (cs : List Ci) : Prop where
  ne : cs ≠ []
  fine : ∀ c ∈ cs, c.fine
  few : cs.length ≤ 1000
  size : (mkC k cs).size ≤ 60
  depth : (mkC k cs).depth ≤ 20
theorem Good.pts_ne {k : Bool} {cs : List Ci} (g : Good k cs) : pts k cs ≠ [] := dd_ne (flat_ne (fun c hc => (g.fine c hc).1) g.ne)
theorem Good.flat_len {k : Bool} {cs : List Ci} (g : Good k cs) : (flat k cs).length ≤ 60000 := by
  have := Eyes.flat_len (k := k) g.fine
  have := g.few
  omega
theorem Good.pts_fine {k : Bool} {cs : List Ci} (g : Good k cs) : ∀ c ∈ pts k cs, c.fine := fun c hc => by
  rcases dd_sub hc with h | h
  · cases h
  · exact flat_fine g.fine c h
theorem Good.ok {k : Bool} {cs : List Ci} (g : Good k cs) : (mkC k cs).fine := by
  refine ⟨?_, g.size⟩
  by_cases h : (pts k cs).length = 1
  · obtain ⟨c, hc⟩ := List.length_eq_one_iff.mp h
    rw [mkC_one hc]
    exact (g.pts_fine c (by rw [hc]; exact List.mem_cons_self)).1
  · rw [mkC_more h]
    refine ⟨?_, oks_mem.mpr fun c hc => (g.pts_fine c hc).1⟩
    have := List.length_pos_iff.mpr g.pts_ne
    omega
end Eyes

set_option Elab.async false
set_option linter.all false
set_option maxRecDepth 100000
set_option maxHeartbeats 4000000
/-! A text tells its circle. -/
namespace Eyes
open PySem PySem.Spec PyProof.Rows L2 Evl TL
def scan : Nat → List Nat → List Nat → List Nat × List Nat
  | _, acc, [] => (acc, [])
  | d, acc, x :: r => if x = 40 then scan (d + 1) (acc ++ [x]) r else if x = 41 then scan (d - 1) (acc ++ [x]) r else if x = 32 ∧ d = 0 then (acc, x :: r) else scan d (acc ++ [x]) r
theorem scan_open {d : Nat} {acc r : List Nat} : scan d acc (40 :: r) = scan (d + 1) (acc ++ [40]) r := by
  rw [scan, if_pos rfl]
theorem scan_close {d : Nat} {acc r : List Nat} : scan (d + 1) acc (41 :: r) = scan d (acc ++ [41]) r := by
  rw [scan, if_neg (by decide), if_pos rfl, Nat.add_sub_cancel]
theorem scan_other {d x : Nat} {acc r : List Nat} (h1 : x ≠ 40) (h2 : x ≠ 41) (h3 : x ≠ 32 ∨ 1 ≤ d) : scan d acc (x :: r) = scan d (acc ++ [x]) r := by
  rw [scan, if_neg h1, if_neg h2, if_neg]
  rintro ⟨a, b⟩
  rcases h3 with h | h
  · exact h a
  · omega
theorem scan_let {d : Nat} : ∀ (n acc r : List Nat), (∀ x ∈ n, 97 ≤ x ∧ x ≤ 122) → scan d acc (n ++ r) = scan d (acc ++ n) r
  | [], acc, r, _ => by rw [List.append_nil]; rfl
  | x :: n, acc, r, h => by
    have hx := h x List.mem_cons_self
    show scan d acc (x :: (n ++ r)) = _
    rw [scan_other (by omega) (by omega) (.inl (by omega)), scan_let n _ r fun y hy => h y (List.mem_cons_of_mem _ hy), List.append_assoc]
    rfl
def Itm (p : List Nat) : Prop := ∀ d acc r, scan d acc (p ++ r) = scan d (acc ++ p) r
theorem sep_tl (k : Bool) : tl (sepS k) = [32, if k = true then 38 else 124, 32] := by cases k <;> decide +kernel
theorem scan_sep {k : Bool} {d : Nat} {acc r : List Nat} : scan (d + 1) acc (tl (sepS k) ++ r) = scan (d + 1) (acc ++ tl (sepS k)) r := by
  rw [sep_tl]
  show scan (d + 1) acc (32 :: (if k = true then 38 else 124) :: 32 :: r) = _
  rw [scan_other (by decide) (by decide) (.inr (by omega)), scan_other (by cases k <;> decide) (by cases k <;> decide) (.inr (by omega)), scan_other (by decide) (by decide) (.inr (by omega))]
  simp
theorem scan_join {k : Bool} {d : Nat} : ∀ (l : List (List Nat)) (acc r : List Nat), (∀ p ∈ l, Itm p) → scan (d + 1) acc (joinL (tl (sepS k)) l ++ r) = scan (d + 1) (acc ++ joinL (tl (sepS k)) l) r
  | [], acc, r, _ => by show scan (d + 1) acc r = scan (d + 1) (acc ++ []) r; rw [List.append_nil]
  | [p], acc, r, h => h p List.mem_cons_self _ _ _
  | p :: q :: l, acc, r, h => by
    show scan (d + 1) acc ((p ++ (tl (sepS k) ++ joinL (tl (sepS k)) (q :: l))) ++ r) = _
    rw [List.append_assoc, h p List.mem_cons_self, List.append_assoc, scan_sep, scan_join (q :: l) _ r fun y hy => h y (List.mem_cons_of_mem _ hy), List.append_assoc, List.append_assoc]
    rfl
mutual
theorem Ci.itm : ∀ c : Ci, c.ok → Itm (wrapL c c.tx)
  | .eye n, h => fun d acc r => scan_let (tl n) acc r h.2.2
  | .node k ps, h => fun d acc r => by
    show scan d acc ((40 :: (joinL (tl (sepS k)) (inns ps) ++ [41])) ++ r) = scan d (acc ++ (40 :: (joinL (tl (sepS k)) (inns ps) ++ [41]))) r
    have e : (40 :: (joinL (tl (sepS k)) (inns ps) ++ [41])) ++ r = 40 :: (joinL (tl (sepS k)) (inns ps) ++ (41 :: r)) := by simp
    rw [e, scan_open, scan_join _ _ _ (inns_itm ps h.2), scan_close]
    simp
theorem inns_itm : ∀ ps : List Ci, oks ps → ∀ p ∈ inns ps, Itm p
  | [], _, p, hp => by cases hp
  | c :: r, h, p, hp => by
    rcases List.mem_cons.mp hp with rfl | hp
    · exact Ci.itm c h.1
    · exact inns_itm r h.2 p hp
end
theorem Itm.all {p : List Nat} (h : Itm p) : scan 0 [] p = (p, []) := by
  have := h 0 [] []
  rw [List.append_nil] at this
  exact this
theorem Itm.cut {p r : List Nat} (h : Itm p) : scan 0 [] (p ++ 32 :: r) = (p, 32 :: r) := by
  rw [h 0 [] (32 :: r), scan, if_neg (by decide), if_neg (by decide), if_pos ⟨rfl, rfl⟩]
  rfl
theorem join_cons (k : Bool) (p q : List Nat) (l : List (List Nat)) : joinL (tl (sepS k)) (p :: q :: l) = p ++ 32 :: (if k = true then 38 else 124) :: 32 :: joinL (tl (sepS k)) (q :: l) := by
  show p ++ (tl (sepS k) ++ _) = _
  rw [sep_tl]
  rfl
theorem join_inj {k : Bool} : ∀ (l m : List (List Nat)), l ≠ [] → m ≠ [] → (∀ p ∈ l, Itm p) → (∀ p ∈ m, Itm p) → joinL (tl (sepS k)) l = joinL (tl (sepS k)) m → l = m
  | [], _, h, _, _, _, _ => absurd rfl h
  | _, [], _, h, _, _, _ => absurd rfl h
  | [p], [q], _, _, _, _, e => by
    have e : p = q := e
    rw [e]
  | [p], q :: q2 :: m, _, _, h1, h2, e => by
    rw [join_cons] at e
    have e : p = _ := e
    have := (h1 p List.mem_cons_self).all
    rw [e, (h2 q List.mem_cons_self).cut] at this
    injection this with a b
    cases b
  | p :: p2 :: l, [q], _, _, h1, h2, e => by
    rw [join_cons] at e
    have e : _ = q := e
    have := (h2 q List.mem_cons_self).all
    rw [← e, (h1 p List.mem_cons_self).cut] at this
    injection this with a b
    cases b
  | p :: p2 :: l, q :: q2 :: m, _, _, h1, h2, e => by
    rw [join_cons, join_cons] at e
    have c1 := (h1 p List.mem_cons_self).cut (r := (if k = true then 38 else 124) :: 32 :: joinL (tl (sepS k)) (p2 :: l))
    rw [e, (h2 q List.mem_cons_self).cut] at c1
    injection c1 with a b
    injection b with _ b
    injection b with _ b
    injection b with _ b
    rw [a, join_inj (p2 :: l) (q2 :: m) (by simp) (by simp) (fun y hy => h1 y (List.mem_cons_of_mem _ hy)) (fun y hy => h2 y (List.mem_cons_of_mem _ hy)) b.symm]
theorem inns_ne {ps : List Ci} (h : 2 ≤ ps.length) : inns ps ≠ [] := by
  rw [inns_map]
  intro e
  have := congrArg List.length e
  rw [List.length_map] at this
  simp at this
  rw [this] at h
  exact absurd h (by decide)
theorem node_cut {k : Bool} {ps : List Ci} (h : (Ci.node k ps).ok) : ∃ p r, (Ci.node k ps).tx = p ++ 32 :: (if k = true then 38 else 124) :: r ∧ Itm p := by
  obtain ⟨h2, h3⟩ := h
  match ps, h2, h3 with
  | c :: d :: r, _, h3 => exact ⟨_, _, join_cons k (wrapL c c.tx) (wrapL d d.tx) (inns r), Ci.itm c h3.1⟩
theorem kind_inj {k j : Bool} (h : (if k = true then 38 else 124) = (if j = true then 38 else 124)) : k = j := by
  cases k <;> cases j <;> first | rfl | exact absurd h (by decide)
mutual
theorem tx_inj : ∀ c d : Ci, c.ok → d.ok → c.tx = d.tx → c = d
  | .eye n, .eye m, _, _, e => by
    have e : tl n = tl m := e
    rw [ext_tl e]
  | .eye n, .node k ps, h1, h2, e => by
    obtain ⟨p, r, e2, hp⟩ := node_cut h2
    have h3 := (Ci.itm (.eye n) h1).all
    have e : tl n = (Ci.node k ps).tx := e
    have h3 : scan 0 [] (tl n) = (tl n, []) := h3
    rw [e, e2, hp.cut] at h3
    injection h3 with a b
    cases b
  | .node k ps, .eye n, h2, h1, e => by
    obtain ⟨p, r, e2, hp⟩ := node_cut h2
    have h3 := (Ci.itm (.eye n) h1).all
    have e : (Ci.node k ps).tx = tl n := e
    have h3 : scan 0 [] (tl n) = (tl n, []) := h3
    rw [← e, e2, hp.cut] at h3
    injection h3 with a b
    cases b
  | .node k ps, .node j qs, h1, h2, e => by
    obtain ⟨p, r, e1, hp⟩ := node_cut h1
    obtain ⟨q, t, e2, hq⟩ := node_cut h2
    have hk : k = j := by
      have h3 := hp.cut (r := (if k = true then 38 else 124) :: r)
      rw [← e1, e, e2, hq.cut] at h3
      injection h3 with a b
      injection b with _ b
      injection b with b _
      exact (kind_inj b).symm
    subst hk
    have e3 := join_inj (k := k) (inns ps) (inns qs) (inns_ne h1.1) (inns_ne h2.1) (inns_itm ps h1.2) (inns_itm qs h2.2) e
    rw [inns_inj ps qs h1.2 h2.2 e3]
theorem inns_inj : ∀ ps qs : List Ci, oks ps → oks qs → inns ps = inns qs → ps = qs
  | [], [], _, _, _ => rfl
  | [], d :: s, _, _, e => by cases e
  | c :: r, [], _, _, e => by cases e
  | c :: r, d :: s, h1, h2, e => by
    have e : wrapL c c.tx :: inns r = wrapL d d.tx :: inns s := e
    injection e with a b
    have a : c.tx = d.tx := by
      cases c with
      | eye n =>
        cases d with
        | eye m => exact a
        | node j qs =>
          have a : tl n = 40 :: _ := a
          have h3 : nm n := h1.1
          have h4 := h3.2.2 40 (by rw [a]; exact List.mem_cons_self)
          omega
      | node k ps =>
        cases d with
        | eye m =>
          have a : 40 :: _ = tl m := a
          have h3 : nm m := h2.1
          have h4 := h3.2.2 40 (by rw [← a]; exact List.mem_cons_self)
          omega
        | node j qs =>
          have a : 40 :: ((Ci.node k ps).tx ++ [41]) = 40 :: ((Ci.node j qs).tx ++ [41]) := a
          injection a with _ a
          exact List.append_cancel_right a
    rw [tx_inj c d h1.1 h2.1 a, inns_inj r s h1.2 h2.2 b]
end
theorem str_inj {c d : Ci} (h1 : c.ok) (h2 : d.ok) (e : c.str = d.str) : c = d := tx_inj c d h1 h2 (by rw [← tl_str, ← tl_str, e])
end Eyes

set_option Elab.async false
set_option linter.all false
set_option maxRecDepth 100000
set_option maxHeartbeats 4000000
/-! Circles as the laws write them: tuples within tuples. -/
namespace Eyes
open PySem PySem.Spec PyProof.Rows L2 Evl TL
mutual
def Ci.data : Ci → PyData
  | .eye n => .tuple [.str "eye", .str n]
  | .node k ps => .tuple [.str (kindS k), .tuple (datas ps)]
def datas : List Ci → List PyData
  | [] => []
  | c :: r => c.data :: datas r
end
theorem datas_map : ∀ ps : List Ci, datas ps = ps.map Ci.data
  | [] => rfl
  | c :: r => by
    show c.data :: datas r = _
    rw [datas_map r]
    rfl
theorem kindS_inj {k j : Bool} (h : kindS k = kindS j) : k = j := by
  cases k <;> cases j <;> first | rfl | exact absurd h (by decide +kernel)
mutual
theorem eqv_data : ∀ c d : Ci, PyData.eqv c.data d.data = true ↔ c = d
  | .eye n, .eye m => by
    simp [Ci.data, PyData.eqv, PyData.eqvAll]
  | .eye n, .node k ps => by
    have h : ∀ k, ("eye" : Str) ≠ kindS k := fun k h => (by cases k <;> exact absurd h (by decide +kernel))
    simp [Ci.data, PyData.eqv, PyData.eqvAll, h]
  | .node k ps, .eye n => by
    have h : ∀ k, kindS k ≠ ("eye" : Str) := fun k h => (by cases k <;> exact absurd h (by decide +kernel))
    simp [Ci.data, PyData.eqv, PyData.eqvAll, h]
  | .node k ps, .node j qs => by
    have h := eqv_datas ps qs
    simp only [Ci.data, PyData.eqv, PyData.eqvAll, Bool.and_true, Bool.and_eq_true, h]
    constructor
    · rintro ⟨a, b⟩
      have a' : k = j := kindS_inj (by simpa using a)
      rw [b, a']
    · intro e
      injection e with a b
      rw [a, b]
      exact ⟨by simp, rfl⟩
theorem eqv_datas : ∀ ps qs : List Ci, PyData.eqvAll (datas ps) (datas qs) = true ↔ ps = qs
  | [], [] => by simp [datas, PyData.eqvAll]
  | [], d :: s => by simp [datas, PyData.eqvAll]
  | c :: r, [] => by simp [datas, PyData.eqvAll]
  | c :: r, d :: s => by
    have h1 := eqv_data c d
    have h2 := eqv_datas r s
    simp [datas, PyData.eqvAll, h1, h2]
end
theorem nm_ok {n : Str} (h : nm n) : PyData.strOk n = true := by
  show n.cps.all (fun c => decide (c < 1114112)) = true
  rw [← Array.all_toList, List.all_eq_true]
  intro x hx
  have := h.2.2 x hx
  exact decide_eq_true (by omega)
mutual
theorem lay_data : ∀ c : Ci, c.ok → PyData.canLay0 c.data = true
  | .eye n, h => by
    have h1 := nm_ok h
    have h2 : PyData.strOk "eye" = true := by decide +kernel
    simp [Ci.data, PyData.canLay0, PyData.canLayAll0, h1, h2]
  | .node k ps, h => by
    have h1 := lay_datas ps h.2
    have h2 : PyData.strOk (kindS k) = true := by cases k <;> decide +kernel
    simp [Ci.data, PyData.canLay0, PyData.canLayAll0, h1, h2]
theorem lay_datas : ∀ ps : List Ci, oks ps → PyData.canLayAll0 (datas ps) = true
  | [], _ => rfl
  | c :: r, h => by
    simp [datas, PyData.canLayAll0, lay_data c h.1, lay_datas r h.2]
end
mutual
theorem dep_data : ∀ c : Ci, PyData.depth c.data ≤ 2 * c.depth + 1
  | .eye n => Nat.le_refl 1
  | .node k ps => by
    have h := dep_datas ps
    show max 0 (max (PyData.depthAll (datas ps) + 1) 0) + 1 ≤ 2 * (1 + depths ps) + 1
    omega
theorem dep_datas : ∀ ps : List Ci, PyData.depthAll (datas ps) ≤ 2 * depths ps + 1
  | [] => Nat.zero_le _
  | c :: r => by
    have h := dep_data c
    have h2 := dep_datas r
    show max (PyData.depth c.data) (PyData.depthAll (datas r)) ≤ 2 * max c.depth (depths r) + 1
    omega
end
def dl : List Ci → List Ci → List Ci
  | acc, [] => acc
  | acc, c :: r => if (datas acc).any (fun z => PyData.eqv z c.data) = true then dl acc r else dl (acc ++ [c]) r
theorem any_eqv {acc : List Ci} {c : Ci} (h1 : ∀ d ∈ acc, d.ok) (h2 : c.ok) : (datas acc).any (fun z => PyData.eqv z c.data) = acc.any fun d => decide (d.str = c.str) := by
  rw [datas_map, List.any_map]
  induction acc with
  | nil => rfl
  | cons d r ih =>
    rw [List.any_cons, List.any_cons, ih fun e he => h1 e (List.mem_cons_of_mem _ he)]
    refine congrArg (· || _) ?_
    have h3 : PyData.eqv d.data c.data = true ↔ d.str = c.str := (eqv_data d c).trans ⟨fun e => by rw [e], fun e => str_inj (h1 d List.mem_cons_self) h2 e⟩
    show PyData.eqv d.data c.data = decide (d.str = c.str)
    by_cases g : d.str = c.str
    · rw [decide_eq_true g, h3.mpr g]
    · rw [decide_eq_false g]
      cases e : PyData.eqv d.data c.data with
      | true => exact absurd (h3.mp e) g
      | false => rfl
theorem dl_dd : ∀ {acc cs : List Ci}, (∀ d ∈ acc, d.ok) → (∀ d ∈ cs, d.ok) → dl acc cs = dd acc cs
  | acc, [], _, _ => rfl
  | acc, c :: r, h1, h2 => by
    unfold dl dd
    rw [any_eqv h1 (h2 c List.mem_cons_self)]
    by_cases g : acc.any (fun d => decide (d.str = c.str)) = true
    · rw [if_pos g, if_pos g]
      exact dl_dd h1 fun d hd => h2 d (List.mem_cons_of_mem _ hd)
    · rw [if_neg g, if_neg g]
      refine dl_dd (fun d hd => ?_) fun d hd => h2 d (List.mem_cons_of_mem _ hd)
      rcases List.mem_append.mp hd with hd | hd
      · exact h1 d hd
      · rw [List.mem_singleton.mp hd]
        exact h2 c List.mem_cons_self
theorem flat_deep {k : Bool} {n : Nat} : ∀ {cs : List Ci}, (∀ c ∈ cs, c.depth ≤ n) → ∀ d ∈ flat k cs, d.depth ≤ n
  | [], _, d, hd => by cases hd
  | c :: r, h, d, hd => by
    unfold flat at hd
    rcases List.mem_append.mp hd with hd | hd
    · by_cases g : c.isK k = true
      · rw [if_pos g] at hd
        cases c with
        | eye n => cases g
        | node j ps =>
          have hd : d ∈ ps := hd
          have h1 : 1 + depths ps ≤ n := h (.node j ps) List.mem_cons_self
          have := depths_le hd
          omega
      · rw [if_neg g] at hd
        rw [List.mem_singleton.mp hd]
        exact h c List.mem_cons_self
    · exact flat_deep (fun e he => h e (List.mem_cons_of_mem _ he)) d hd
theorem flat_ok {k : Bool} : ∀ {cs : List Ci}, (∀ c ∈ cs, c.ok) → ∀ d ∈ flat k cs, d.ok
  | [], _, d, hd => by cases hd
  | c :: r, h, d, hd => by
    unfold flat at hd
    rcases List.mem_append.mp hd with hd | hd
    · by_cases g : c.isK k = true
      · rw [if_pos g] at hd
        cases c with
        | eye n => cases g
        | node j ps => exact oks_mem.mp (h (.node j ps) List.mem_cons_self).2 d hd
      · rw [if_neg g] at hd
        rw [List.mem_singleton.mp hd]
        exact h c List.mem_cons_self
    · exact flat_ok (fun e he => h e (List.mem_cons_of_mem _ he)) d hd
theorem shaped_data {c : Ci} (h : c.ok) (hd : c.depth ≤ 25) : SeqAt.shaped c.data = true := by
  unfold SeqAt.shaped
  have := dep_data c
  rw [lay_data c h, decide_eq_true (by omega)]
  rfl
theorem shaped_datas {cs : List Ci} (h : ∀ c ∈ cs, c.ok) (hd : ∀ c ∈ cs, c.depth ≤ 25) : SeqAt.shaped (.list (datas cs)) = true := by
  have h1 : PyData.canLay0 (.list (datas cs)) = true := lay_datas cs (oks_mem.mpr h)
  have h2 : PyData.depth (.list (datas cs)) ≤ 64 := by
    have h3 := dep_datas cs
    have h4 : depths cs ≤ 25 := by
      cases cs with
      | nil => exact Nat.zero_le _
      | cons c r =>
        obtain ⟨d, hd1, e⟩ := depths_mem (ps := c :: r) (by simp)
        rw [e]
        exact hd d hd1
    show PyData.depthAll (datas cs) + 1 ≤ 64
    omega
  unfold SeqAt.shaped
  rw [h1, decide_eq_true h2]
  rfl
end Eyes

set_option Elab.async false
set_option linter.all false
set_option maxRecDepth 100000
set_option maxHeartbeats 4000000
/-! Normal circles: what joining gives, and what signs build. -/
namespace Eyes
open PySem PySem.Spec PyProof.Rows L2 Evl TL
mutual
def Ci.norm : Ci → Prop
  | .eye n => nm n
  | .node k ps => 2 ≤ ps.length ∧ (∀ c ∈ ps, c.isK k = false) ∧ ps.Nodup ∧ norms ps
def norms : List Ci → Prop
  | [] => True
  | c :: r => c.norm ∧ norms r
end
theorem norms_mem : ∀ {ps : List Ci}, norms ps ↔ ∀ c ∈ ps, c.norm
  | [] => ⟨fun _ _ h => (nomatch h), fun _ => True.intro⟩
  | c :: r => by
    show c.norm ∧ norms r ↔ _
    rw [norms_mem (ps := r)]
    constructor
    · rintro ⟨h1, h2⟩ d hd
      rcases List.mem_cons.mp hd with rfl | hd
      · exact h1
      · exact h2 d hd
    · intro h
      exact ⟨h c List.mem_cons_self, fun d hd => h d (List.mem_cons_of_mem _ hd)⟩
mutual
theorem Ci.norm_ok : ∀ c : Ci, c.norm → c.ok
  | .eye n, h => h
  | .node k ps, h => ⟨h.1, norms_ok ps h.2.2.2⟩
theorem norms_ok : ∀ ps : List Ci, norms ps → oks ps
  | [], _ => True.intro
  | c :: r, h => ⟨Ci.norm_ok c h.1, norms_ok r h.2⟩
end
theorem norm_of {c : Ci} (h : c.norm) : c.ok := c.norm_ok h
theorem any_str {acc : List Ci} {c : Ci} (h1 : ∀ d ∈ acc, d.ok) (h2 : c.ok) : acc.any (fun d => decide (d.str = c.str)) = true ↔ c ∈ acc := by
  rw [List.any_eq_true]
  constructor
  · rintro ⟨d, hd, e⟩
    rw [← str_inj (h1 d hd) h2 (of_decide_eq_true e)]
    exact hd
  · intro h
    exact ⟨c, h, decide_eq_true rfl⟩
theorem dd_nodup : ∀ {acc cs : List Ci}, (∀ d ∈ acc, d.ok) → (∀ d ∈ cs, d.ok) → (acc ++ cs).Nodup → dd acc cs = acc ++ cs
  | acc, [], _, _, _ => by rw [List.append_nil]; rfl
  | acc, c :: r, h1, h2, h3 => by
    unfold dd
    have hc : c ∉ acc := fun h => by
      have := (List.nodup_append.mp h3).2.2 c h c List.mem_cons_self
      exact this rfl
    rw [if_neg (fun h => hc ((any_str h1 (h2 c List.mem_cons_self)).mp h))]
    rw [dd_nodup (acc := acc ++ [c]) (cs := r) (fun d hd => ?_) (fun d hd => h2 d (List.mem_cons_of_mem _ hd)) (by rw [List.append_assoc]; exact h3), List.append_assoc]
    · rfl
    · rcases List.mem_append.mp hd with hd | hd
      · exact h1 d hd
      · rw [List.mem_singleton.mp hd]
        exact h2 c List.mem_cons_self
theorem dd_is_nodup : ∀ {acc cs : List Ci}, (∀ d ∈ acc, d.ok) → (∀ d ∈ cs, d.ok) → acc.Nodup → (dd acc cs).Nodup
  | acc, [], _, _, h => h
  | acc, c :: r, h1, h2, h3 => by
    unfold dd
    have h4 : ∀ d ∈ r, d.ok := fun d hd => h2 d (List.mem_cons_of_mem _ hd)
    by_cases g : acc.any (fun d => decide (d.str = c.str)) = true
    · rw [if_pos g]
      exact dd_is_nodup h1 h4 h3
    · rw [if_neg g]
      have hc : c ∉ acc := fun h => g ((any_str h1 (h2 c List.mem_cons_self)).mpr h)
      refine dd_is_nodup (fun d hd => ?_) h4 ?_
      · rcases List.mem_append.mp hd with hd | hd
        · exact h1 d hd
        · rw [List.mem_singleton.mp hd]
          exact h2 c List.mem_cons_self
      · refine List.nodup_append.mpr ⟨h3, (by simp), fun a ha b hb => ?_⟩
        rw [List.mem_singleton.mp hb]
        intro e
        exact hc (e ▸ ha)
theorem flat_norm {k : Bool} : ∀ {cs : List Ci}, (∀ c ∈ cs, c.norm) → ∀ d ∈ flat k cs, d.norm ∧ d.isK k = false
  | [], _, d, hd => by cases hd
  | c :: r, h, d, hd => by
    unfold flat at hd
    have hc := h c List.mem_cons_self
    rcases List.mem_append.mp hd with hd | hd
    · by_cases g : c.isK k = true
      · rw [if_pos g] at hd
        cases c with
        | eye n => cases g
        | node j ps =>
          have hd2 : d ∈ ps := hd
          have g : (j == k) = true := g
          have e : j = k := by simpa using g
          subst e
          exact ⟨norms_mem.mp hc.2.2.2 d hd2, hc.2.1 d hd2⟩
      · rw [if_neg g] at hd
        rw [List.mem_singleton.mp hd]
        exact ⟨hc, by simpa using g⟩
    · exact flat_norm (fun e he => h e (List.mem_cons_of_mem _ he)) d hd
theorem mkC_norm {k : Bool} {cs : List Ci} (hne : cs ≠ []) (h : ∀ c ∈ cs, c.norm) : (mkC k cs).norm := by
  have hf := flat_norm (k := k) h
  have hok : ∀ d ∈ flat k cs, d.ok := fun d hd => norm_of (hf d hd).1
  have hsub : ∀ d ∈ pts k cs, d ∈ flat k cs := fun d hd => by
    rcases dd_sub hd with g | g
    · cases g
    · exact g
  by_cases h1 : (pts k cs).length = 1
  · obtain ⟨c, hc⟩ := List.length_eq_one_iff.mp h1
    rw [mkC_one hc]
    exact (hf c (hsub c (by rw [hc]; exact List.mem_cons_self))).1
  · rw [mkC_more h1]
    have hn : pts k cs ≠ [] := dd_ne (flat_ne (fun c hc => norm_of (h c hc)) hne)
    have := List.length_pos_iff.mpr hn
    exact ⟨by omega, fun d hd => (hf d (hsub d hd)).2, dd_is_nodup (fun _ h => by cases h) hok List.nodup_nil, norms_mem.mpr fun d hd => (hf d (hsub d hd)).1⟩
theorem flat_not {k : Bool} : ∀ {cs : List Ci}, (∀ c ∈ cs, c.isK k = false) → flat k cs = cs
  | [], _ => rfl
  | c :: r, h => by
    unfold flat
    rw [if_neg (by rw [h c List.mem_cons_self]; decide), flat_not fun d hd => h d (List.mem_cons_of_mem _ hd)]
    rfl
def some_of (k : Bool) : List Ci → Ci
  | [c] => c
  | ps => .node k ps
theorem some_node {k : Bool} {ps : List Ci} (h : 2 ≤ ps.length) : some_of k ps = .node k ps := by
  match ps, h with
  | c :: d :: r, _ => rfl
theorem sign_step {k : Bool} {ps : List Ci} {c : Ci} (hne : ps ≠ []) (h : (Ci.node k (ps ++ [c])).norm) : mkC k [some_of k ps, c] = .node k (ps ++ [c]) := by
  obtain ⟨h1, h2, h3, h4⟩ := h
  have hok : ∀ d ∈ ps ++ [c], d.ok := fun d hd => norm_of (norms_mem.mp h4 d hd)
  have hc : c.isK k = false := h2 c (by simp)
  have hfl : flat k [some_of k ps, c] = ps ++ [c] := by
    have e2 : flat k [c] = [c] := flat_not fun d hd => by rw [List.mem_singleton.mp hd]; exact hc
    match ps, hne with
    | [d], _ =>
      exact flat_not (cs := [d, c]) h2
    | d :: e :: r, _ =>
      show (if (k == k) = true then (d :: e :: r) else [some_of k (d :: e :: r)]) ++ flat k [c] = _
      rw [if_pos (by simp), e2]
  have hp : pts k [some_of k ps, c] = ps ++ [c] := by
    show dd [] (flat k [some_of k ps, c]) = _
    rw [hfl]
    exact dd_nodup (acc := []) (fun _ h => by cases h) hok h3
  rw [mkC_more (by rw [hp]; omega), hp]
theorem sizes_append : ∀ a b : List Ci, sizes (a ++ b) = sizes a + sizes b
  | [], b => by show sizes b = 0 + sizes b; omega
  | c :: r, b => by
    show c.size + sizes (r ++ b) = (c.size + sizes r) + sizes b
    rw [sizes_append r b]
    omega
theorem depths_app : ∀ a b : List Ci, depths a ≤ depths (a ++ b)
  | [], b => Nat.zero_le _
  | c :: r, b => by
    show max c.depth (depths r) ≤ max c.depth (depths (r ++ b))
    have := depths_app r b
    omega
theorem norms_take {ps : List Ci} (k : Bool) {i : Nat} (h : (Ci.node k ps).norm) (hi : 2 ≤ i) (hl : i ≤ ps.length) : (Ci.node k (ps.take i)).norm := by
  obtain ⟨h1, h2, h3, h4⟩ := h
  refine ⟨by rw [List.length_take]; omega, fun c hc => h2 c (List.mem_of_mem_take hc), h3.sublist (List.take_sublist _ _), norms_mem.mpr fun c hc => norms_mem.mp h4 c (List.mem_of_mem_take hc)⟩
theorem sizes_take (ps : List Ci) (i : Nat) : sizes (ps.take i) ≤ sizes ps := by
  have h : sizes ps = sizes (ps.take i) + sizes (ps.drop i) := by rw [← sizes_append, List.take_append_drop]
  omega
theorem depths_take (ps : List Ci) (i : Nat) : depths (ps.take i) ≤ depths ps := by
  have h := depths_app (ps.take i) (ps.drop i)
  rw [List.take_append_drop] at h
  exact h
theorem some_fine {k : Bool} {ps : List Ci} {j : Nat} (h : (Ci.node k ps).norm) (hs : sizes ps ≤ 60) (h1 : 1 ≤ j) (h2 : j ≤ ps.length) : (some_of k (ps.take j)).fine := by
  by_cases hj : 2 ≤ j
  · rw [some_node (by rw [List.length_take]; omega)]
    exact ⟨norm_of (norms_take k h hj h2), Nat.le_trans (sizes_take ps j) hs⟩
  · have e : j = 1 := by omega
    subst e
    match ps, h, hs, h2 with
    | c :: r, h, hs, _ =>
      have hc : c.norm := norms_mem.mp h.2.2.2 c List.mem_cons_self
      exact ⟨norm_of hc, Nat.le_trans (sizes_mem (ps := c :: r) List.mem_cons_self) hs⟩
theorem good_step {k : Bool} {ps : List Ci} {c : Ci} {j : Nat} (h : (Ci.node k ps).norm) (hs : sizes ps ≤ 60) (hd : 1 + depths ps ≤ 20) (h1 : 1 ≤ j) (hc : ps[j]? = some c) : mkC k [some_of k (ps.take j), c] = some_of k (ps.take (j + 1)) ∧ Good k [some_of k (ps.take j), c] := by
  have hj : j < ps.length := (List.getElem?_eq_some_iff.mp hc).1
  have ht : ps.take (j + 1) = ps.take j ++ [c] := by
    rw [List.take_add_one, hc]
    rfl
  have hne : ps.take j ≠ [] := fun e => by
    have := congrArg List.length e
    rw [List.length_take, List.length_nil] at this
    omega
  have hn : (Ci.node k (ps.take j ++ [c])).norm := by
    rw [← ht]
    exact norms_take k h (by omega) (by omega)
  have hm := sign_step hne hn
  have e2 : some_of k (ps.take (j + 1)) = .node k (ps.take j ++ [c]) := by
    rw [some_node (by rw [List.length_take]; omega), ht]
  refine ⟨by rw [hm, e2], by simp, fun d hd => ?_, by show 2 ≤ 1000; decide, ?_, ?_⟩
  · rcases List.mem_cons.mp hd with rfl | hd
    · exact some_fine h hs h1 (by omega)
    · rw [List.mem_singleton.mp hd]
      have hcm := List.mem_of_getElem? hc
      exact ⟨norm_of (norms_mem.mp h.2.2.2 c hcm), Nat.le_trans (sizes_mem hcm) hs⟩
  · rw [hm, ← ht]
    exact Nat.le_trans (sizes_take ps (j + 1)) hs
  · rw [hm, ← ht]
    have := depths_take ps (j + 1)
    show 1 + depths (ps.take (j + 1)) ≤ 20
    omega
theorem sizes_flat {k : Bool} : ∀ cs : List Ci, sizes (flat k cs) = sizes cs
  | [] => rfl
  | c :: r => by
    unfold flat
    rw [sizes_append, sizes_flat r]
    show _ = c.size + sizes r
    by_cases g : c.isK k = true
    · rw [if_pos g]
      cases c with
      | eye n => cases g
      | node j ps => rfl
    · rw [if_neg g]
      rfl
theorem sizes_dd : ∀ {acc cs : List Ci}, sizes (dd acc cs) ≤ sizes acc + sizes cs
  | acc, [] => Nat.le_add_right _ _
  | acc, c :: r => by
    unfold dd
    have e : sizes (c :: r) = c.size + sizes r := rfl
    by_cases g : acc.any (fun d => decide (d.str = c.str)) = true
    · rw [if_pos g, e]
      have := sizes_dd (acc := acc) (cs := r)
      omega
    · rw [if_neg g, e]
      have h := sizes_dd (acc := acc ++ [c]) (cs := r)
      rw [sizes_append] at h
      have e2 : sizes [c] = c.size := rfl
      omega
theorem mkC_size (k : Bool) (cs : List Ci) : (mkC k cs).size ≤ sizes cs := by
  have h : sizes (pts k cs) ≤ sizes cs := by
    have := sizes_dd (acc := []) (cs := flat k cs)
    rw [sizes_flat] at this
    have e : sizes [] = 0 := rfl
    show sizes (dd [] (flat k cs)) ≤ _
    omega
  by_cases h1 : (pts k cs).length = 1
  · obtain ⟨c, hc⟩ := List.length_eq_one_iff.mp h1
    rw [mkC_one hc]
    rw [hc] at h
    exact h
  · rw [mkC_more h1]
    exact h
theorem depths_all {n : Nat} : ∀ {ps : List Ci}, (∀ c ∈ ps, c.depth ≤ n) → depths ps ≤ n
  | [], _ => Nat.zero_le _
  | c :: r, h => by
    have h1 := h c List.mem_cons_self
    have h2 := depths_all (ps := r) fun d hd => h d (List.mem_cons_of_mem _ hd)
    show max c.depth (depths r) ≤ n
    omega
theorem mkC_depth {k : Bool} {cs : List Ci} {n : Nat} (h : ∀ c ∈ cs, c.depth ≤ n) : (mkC k cs).depth ≤ n + 1 := by
  have hf : ∀ d ∈ pts k cs, d.depth ≤ n := fun d hd => by
    rcases dd_sub hd with g | g
    · cases g
    · exact flat_deep h d g
  by_cases h1 : (pts k cs).length = 1
  · obtain ⟨c, hc⟩ := List.length_eq_one_iff.mp h1
    rw [mkC_one hc]
    have := hf c (by rw [hc]; exact List.mem_cons_self)
    omega
  · rw [mkC_more h1]
    have := depths_all hf
    show 1 + depths (pts k cs) ≤ n + 1
    omega
theorem sizes_mul {m : Nat} : ∀ {ps : List Ci}, (∀ c ∈ ps, c.size ≤ m) → sizes ps ≤ ps.length * m
  | [], _ => Nat.zero_le _
  | c :: r, h => by
    have h1 := h c List.mem_cons_self
    have h2 := sizes_mul (ps := r) fun d hd => h d (List.mem_cons_of_mem _ hd)
    rw [List.length_cons, Nat.succ_mul]
    show c.size + sizes r ≤ _
    omega
theorem parts_le {c : Ci} (h : c.ok) : c.parts.length ≤ c.size := by
  cases c with
  | eye n => exact Nat.zero_le _
  | node k ps => exact sizes_len ps h.2
theorem flat_le {k : Bool} : ∀ {cs : List Ci}, (∀ c ∈ cs, c.ok) → (flat k cs).length ≤ sizes cs
  | [], _ => Nat.le_refl _
  | c :: r, h => by
    unfold flat
    have h1 := flat_le (k := k) (cs := r) fun e he => h e (List.mem_cons_of_mem _ he)
    have h2 := parts_le (h c List.mem_cons_self)
    have h3 := c.size_pos (h c List.mem_cons_self)
    rw [List.length_append]
    show _ ≤ c.size + sizes r
    by_cases g : c.isK k = true
    · rw [if_pos g]
      omega
    · rw [if_neg g, List.length_singleton]
      omega
end Eyes

set_option Elab.async false
set_option linter.all false
set_option maxRecDepth 100000
/-! The eyes of a circle: leaves, sorted lists of texts. -/
namespace Eyes
open PySem PySem.Spec PyProof.Rows L2 Evl TL
mutual
def Ci.leaves : Ci → List Str
  | .eye n => [n]
  | .node _ ps => leavess ps
def leavess : List Ci → List Str
  | [] => []
  | c :: r => c.leaves ++ leavess r
end
mutual
theorem Ci.leaves_len : ∀ c : Ci, c.leaves.length = c.size
  | .eye _ => rfl
  | .node _ ps => leavess_len ps
theorem leavess_len : ∀ ps : List Ci, (leavess ps).length = sizes ps
  | [] => rfl
  | c :: r => by
    show (c.leaves ++ leavess r).length = c.size + sizes r
    rw [List.length_append, Ci.leaves_len c, leavess_len r]
end
mutual
theorem Ci.leaves_ne : ∀ c : Ci, c.ok → c.leaves ≠ []
  | .eye _, _ => by intro h; cases h
  | .node _ ps, h => by
    intro e
    have h1 := Ci.leaves_len (.node true ps)
    have h2 := sizes_len ps h.2
    have h3 : 2 ≤ ps.length := h.1
    have e : leavess ps = [] := e
    have h1 : (leavess ps).length = sizes ps := h1
    rw [e, List.length_nil] at h1
    omega
end
theorem leavess_app : ∀ a b : List Ci, leavess (a ++ b) = leavess a ++ leavess b
  | [], _ => rfl
  | c :: r, b => by
    show c.leaves ++ leavess (r ++ b) = (c.leaves ++ leavess r) ++ leavess b
    rw [leavess_app r b, List.append_assoc]
theorem leavess_mem : ∀ {ps : List Ci} {y : Str}, y ∈ leavess ps ↔ ∃ c ∈ ps, y ∈ c.leaves
  | [], y => ⟨fun h => (by cases h), fun h => by
    obtain ⟨c, h, _⟩ := h
    cases h⟩
  | c :: r, y => by
    show y ∈ c.leaves ++ leavess r ↔ _
    rw [List.mem_append, leavess_mem (ps := r)]
    constructor
    · rintro (h | ⟨d, h1, h2⟩)
      · exact ⟨c, List.mem_cons_self, h⟩
      · exact ⟨d, List.mem_cons_of_mem _ h1, h2⟩
    · rintro ⟨d, h1, h2⟩
      rcases List.mem_cons.mp h1 with rfl | h1
      · exact .inl h2
      · exact .inr ⟨d, h1, h2⟩
theorem rising_le : ∀ {l : List Str} {p : Str}, risingS p l = true → ∀ y ∈ l, p.cps.toList ≤ y.cps.toList
  | x :: r, p, h, y, hy => by
    have h : (!ltCps x.cps.toList p.cps.toList && risingS x r) = true := h
    obtain ⟨h1, h2⟩ := Bool.and_eq_true_iff.mp h
    have h1 : p.cps.toList ≤ x.cps.toList := by
      rw [ltCps_eq] at h1
      exact List.not_lt.mp (by simpa using h1)
    rcases List.mem_cons.mp hy with rfl | hy
    · exact h1
    · exact List.le_trans h1 (rising_le h2 y hy)
theorem rising_sorted : ∀ {l : List Str} {p : Str}, risingS p l = true → sortedS l = true
  | [], _, _ => rfl
  | x :: r, p, h => by
    have h : (!ltCps x.cps.toList p.cps.toList && risingS x r) = true := h
    exact (Bool.and_eq_true_iff.mp h).2
theorem sorted_one : ∀ {a b : List Str}, sortedS a = true → sortedS b = true → a.Nodup → b.Nodup → (∀ y, y ∈ a ↔ y ∈ b) → a = b
  | [], [], _, _, _, _, _ => rfl
  | [], y :: t, _, _, _, _, h => absurd ((h y).2 List.mem_cons_self) (by simp)
  | x :: r, [], _, _, _, _, h => absurd ((h x).1 List.mem_cons_self) (by simp)
  | x :: r, y :: t, h1, h2, n1, n2, h => by
    obtain ⟨nx, nr⟩ := List.nodup_cons.mp n1
    obtain ⟨ny, nt⟩ := List.nodup_cons.mp n2
    have e : x = y := by
      by_cases he : x = y
      · exact he
      have a1 : y ∈ r := by
        rcases List.mem_cons.mp ((h y).2 List.mem_cons_self) with z | z
        · exact absurd z.symm he
        · exact z
      have a2 : x ∈ t := by
        rcases List.mem_cons.mp ((h x).1 List.mem_cons_self) with z | z
        · exact absurd z he
        · exact z
      have l1 := rising_le (show risingS x r = true from h1) y a1
      have l2 := rising_le (show risingS y t = true from h2) x a2
      exact ext_tl (List.le_antisymm l1 l2)
    subst e
    have e2 := sorted_one (a := r) (b := t) (rising_sorted (show risingS x r = true from h1)) (rising_sorted (show risingS x t = true from h2)) nr nt fun z => by
      constructor
      · intro hz
        rcases List.mem_cons.mp ((h z).1 (List.mem_cons_of_mem _ hz)) with q | q
        · exact absurd (q ▸ hz) nx
        · exact q
      · intro hz
        rcases List.mem_cons.mp ((h z).2 (List.mem_cons_of_mem _ hz)) with q | q
        · exact absurd (q ▸ hz) ny
        · exact q
    rw [e2]
def IsEyes (c : Ci) (ys : List Str) : Prop := sortedS ys = true ∧ ys.Nodup ∧ ∀ y, y ∈ ys ↔ y ∈ c.leaves
theorem eyes_one {c : Ci} {ys zs : List Str} (h1 : IsEyes c ys) (h2 : IsEyes c zs) : ys = zs := sorted_one h1.1 h2.1 h1.2.1 h2.2.1 fun y => (h1.2.2 y).trans (h2.2.2 y).symm
theorem nodup_le {α : Type} [DecidableEq α] : ∀ {a b : List α}, a.Nodup → (∀ y ∈ a, y ∈ b) → a.length ≤ b.length
  | [], _, _, _ => Nat.zero_le _
  | x :: r, b, n, h => by
    obtain ⟨nx, nr⟩ := List.nodup_cons.mp n
    have hx : x ∈ b := h x List.mem_cons_self
    have := nodup_le (a := r) (b := b.erase x) nr fun y hy => (List.mem_erase_of_ne (by intro e; exact nx (e ▸ hy))).mpr (h y (List.mem_cons_of_mem _ hy))
    rw [List.length_erase_of_mem hx] at this
    have : 0 < b.length := List.length_pos_of_mem hx
    rw [List.length_cons]
    omega
theorem IsEyes.len {c : Ci} {ys : List Str} (h : IsEyes c ys) : ys.length ≤ c.size := by
  rw [← Ci.leaves_len]
  exact nodup_le h.2.1 fun y hy => (h.2.2 y).1 hy
theorem IsEyes.ne {c : Ci} {ys : List Str} (h : IsEyes c ys) (hc : c.ok) : ys ≠ [] := by
  intro e
  subst e
  have := Ci.leaves_ne c hc
  cases hl : c.leaves with
  | nil => exact this hl
  | cons y r => exact absurd ((h.2.2 y).2 (by rw [hl]; exact List.mem_cons_self)) (by simp)
end Eyes

set_option Elab.async false
set_option linter.all false
set_option maxRecDepth 100000
set_option maxHeartbeats 4000000
/-! try with several clauses that name what they catch. -/
namespace Eyes
open PySem PySem.Spec PyProof.Rows L2
def endsAs (D : Ends) (j : Nat) : Ends := { nx := fun τ G => D.nx (τ.set j none) G, rt := D.rt, bk := fun τ G => D.bk (τ.set j none) G, ct := fun τ G => D.ct (τ.set j none) G }
def wAll (K : PySem.W.Frag) (D : Ends) : List (Value × Nat × (Addr → Value → Option Addr → TS)) → WX
  | [] => fun _ _ _ _ => False
  | (c, j, ts) :: r => fun cls d τ G => ∃ y, PySem.W.exmOne K cls c = some y ∧ (y = true → ∀ e, G e = none → ts e cls d (endsAs D j) (τ.set j (some (.ref e))) G) ∧ (y = false → wAll K D r cls d τ G)
inductive HdsAs (X : Cx) : List ExceptHandler → List (Value × Nat × (Addr → Value → Option Addr → TS)) → Prop
  | rest {hds : List ExceptHandler} : HdsAs X hds []
  | cons {x n : Str} {c : Value} {j : Nat} {ts : Addr → Value → Option Addr → TS} {st0 : Stmt} {sts : List Stmt} {p1 p2 : Pos} {hds : List ExceptHandler} {l : List (Value × Nat × (Addr → Value → Option Addr → TS))} (hc : Names X x c) (hi : X.N[j]? = some n) (hl : X.env.kindOf n = some .local)
      (su : ∀ (e : Addr) (oe : Obj) (cls : Value) (d : Option Addr) (pn : List (Addr × Obj)), Zc cls d oe → (∃ fs, oe.data = .fields fs) → PSs (X.suite e ((e, oe) :: pn)) (st0 :: sts) (ts e cls d)) (r : HdsAs X hds l) :
      HdsAs X (.ExceptHandler (some (.Name x p1)) (some n) (st0 :: sts) p2 :: hds) ((c, j, ts) :: l)
section
variable {X : Cx} {body : List Stmt} {h1 : ExceptHandler} {hds : List ExceptHandler} {l : List (Value × Nat × (Addr → Value → Option Addr → TS))} {pos : Pos} {tb : WX → TS}
theorem clauses_as {pins : List (Addr × Obj)} {τ : L2.St} {G : Hp} {D : Ends} {e : Addr} {B : Heap} {sI s1 : Shared} {cls : Value} {d : Option Addr} (ok : X.Ok) (hs : X.stack = X.env :: X.outer) (hf : X.env.frame = some X.env.locals) (hN : X.N.Nodup)
    (J : Inv X pins τ G sI) (nb : ∀ b o, sI.heap.get? b = some o → b ∉ frs X.stack → B.get? b = some o) (up : sI.heap.UpToSlots s1.heap) (fl : HandSPX.FlyingZ B (X.env :: X.outer) e (Zc cls d) s1.heap) (na : G e = none) (os : s1.os = sI.os) (ag : AllBare s1.gens)
    (nL : e ≠ X.env.locals) (nF : e ∉ X.fs) {hs' : List ExceptHandler} {l' : List (Value × Nat × (Addr → Value → Option Addr → TS))} (hh : HdsAs X hs' l') :
    wAll X.K D l' cls d τ G → wpAny (model X.prog X.w) X.A (handleBy (.ref e) X.env hs') (SP X pins D) X.xe s1 := by
  induction hh with
  | rest => exact fun z => z.elim
  | @cons x n c j ts st0 sts p1 p2 hds2 l2 hc hi hl su r ih =>
    rintro ⟨y, hy, yes, no⟩
    obtain ⟨oe, fs, he, hz, hd⟩ := fl.there
    have here : Inv X pins τ G s1 := J.landed nb fl.1 up os ag
    have inS := here.suite he hd na nL nF
    have cl : PySem.W.Looks (model X.prog X.w) s1.heap (typeOf (.ref e)) cls := fun A' Q' E' s' kp q => wpAny_typeOf_ref (kp _ _ he) (by rw [hz.1]; exact q)
    have mt := PySem.W.exm_one (M := model X.prog X.w) here.kIn cl hy
    have named : ∀ {Q' E' : Value → Shared → Prop}, Q' c s1 → wpAny (model X.prog X.w) (X.A.mark (some (.ref e))) (eval (.Name x p1) X.env) Q' E' s1 := by
      intro Q' E' q
      obtain ⟨g1, g2, g3 | ⟨g3, g4, g5⟩⟩ := hc
      · exact ld_glob (X := X.suite e ((e, oe) :: (X.pn ++ pins))) inS g1 g3 q g2
      · exact ld_blt (X := X.suite e ((e, oe) :: (X.pn ++ pins))) inS g1 g3 g4 q g5 g2
    refine wpAny_handleBy_cons (codeAny_handlers_test (named (mt.here ?_))) (fun z => nomatch z)
    cases y with
    | false => exact ih (no rfl)
    | true =>
      refine codeAny_handlers_suite_as (HandSPX.lands_againZ fl fun h4 fl4 up4 => ?_)
      obtain ⟨oe4, fs4, he4, hz4, hd4⟩ := fl4.there
      have at4 : Inv X pins τ G { s1 with heap := h4 } := J.landed nb fl4.1 (up.trans up4) os ag
      refine store_ok (X := X.suite e ((e, oe4) :: (X.pn ++ pins))) (v := .ref e) (at4.suite he4 hd4 na nL nF) hN hi (.inl hl) rfl (fun s5 I5 => ?_) (.inr hl)
      refine wpAny_mono ((su e oe4 cls d (X.pn ++ pins) hz4 ⟨_, hd4⟩).run [] s5 _ G _ I5 (yes rfl e na)) (fun f s6 q6 => ?_) (fun _ _ z => z.elim)
      have bare : ∀ {τ6 : L2.St} {G6 : Hp} {Q' : Shared → Prop}, Inv (X.suite e ((e, oe4) :: (X.pn ++ pins))) [] τ6 G6 s6 → (∀ s7, Inv X pins (τ6.set j none) G6 s7 → Q' s7) →
          wpAny (model X.prog X.w) X.A (do bindName X.env n .none; unbindBehindTheSuite X.env n p2) (fun _ s7 => Q' s7) X.xe s6 := fun {τ6 G6 Q'} I6 q => gone_ok (I6.unsuite ok) hN hi hl q
      cases f with
      | next =>
        obtain ⟨τ6, G6, I6, w6⟩ := q6
        exact bare I6 fun s7 I7 => ⟨_, _, I7, w6⟩
      | brk =>
        obtain ⟨τ6, G6, I6, w6⟩ := q6
        exact bare I6 fun s7 I7 => ⟨_, _, I7, w6⟩
      | cont =>
        obtain ⟨τ6, G6, I6, w6⟩ := q6
        exact bare I6 fun s7 I7 => ⟨_, _, I7, w6⟩
      | ret u =>
        obtain ⟨v6, τ6, G6, I6, r6, w6⟩ := q6
        exact bare I6 fun s7 I7 => ⟨_, _, _, I7, r6, w6⟩
theorem ps_tryAs (hs : X.stack = X.env :: X.outer) (hf : X.env.frame = some X.env.locals) (hN : X.N.Nodup)
    (hb : ∀ (W : WX) (pn : List (Addr × Obj)) (xe : Value → Shared → Prop), Takes (X.tr pn xe) W → PassesOwn (model X.prog X.w) X.A X.env xe → PSs (X.tr pn xe) body (tb W)) (hh : HdsAs X (h1 :: hds) l) :
    PS X (.Try body (h1 :: hds) [] [] pos) (fun D τ G => tb (wAll X.K D l) D τ G) := by
  refine ⟨fun pins s τ G D I h => ?_⟩
  have ok := I.ok
  have stk : X.A.frames = some (X.env :: X.outer) := ok.frames.trans (by rw [hs])
  have out : Takes (X.tr (X.pn ++ pins) (fun u s2 => wpAny (model X.prog X.w) X.A (noteFrame u X.env) (fun _ s3 => wpAny (model X.prog X.w) X.A (setFlight u none) (fun _ s4 => wpAny (model X.prog X.w) X.A (handleBy u X.env (h1 :: hds)) (SP X pins D) X.xe s4) X.xe s3) X.xe s2)) (wAll X.K D l) := by
    rintro u s' ⟨e, B, sI, pins', τ', G', cls, d, rfl, J', nb, up, sky, na, os, ag, w⟩
    have J : Inv X pins τ' G' sI := J'.ofTry ok
    refine Sky.land (B := B) (L := X.env.locals) (Z := Zc cls d) Zc.steady stk hf (by rw [← hs]; exact sky) fun h3 fl up3 => ?_
    obtain ⟨oe, fs, he, hz, hd⟩ := fl.there
    have away : e ∉ frs (X.env :: X.outer) := fun hm => by
      obtain ⟨_, o', e', nf⟩ := fl.2.2.1.mem hm
      cases he.symm.trans e'
      exact nf _ hd
    refine clauses_as (s1 := { s' with heap := h3 }) ok hs hf hN J nb (up.trans up3) fl na os ag (fun z => away (List.mem_filterMap.mpr ⟨X.env, List.mem_cons_self, by rw [hf, z]⟩)) (fun hm => ?_) hh w
    obtain ⟨v, hv, q⟩ := List.mem_filterMap.mp hm
    exact away (List.mem_filterMap.mpr ⟨v, List.mem_cons_of_mem _ hv, q⟩)
  refine wpAny_Try_except (wpAny_mono ((hb _ _ _ out PassesOwn.looking).run [] s τ G D (I.toTry _) h) (fun f s1 q => ?_) fun _ _ z => z)
  cases f with
  | next =>
    obtain ⟨τ1, G1, I1, w1⟩ := q
    exact wpAny_execs_nil ⟨τ1, G1, I1.ofTry ok, w1⟩
  | brk =>
    obtain ⟨τ1, G1, I1, w1⟩ := q
    exact ⟨τ1, G1, I1.ofTry ok, w1⟩
  | cont =>
    obtain ⟨τ1, G1, I1, w1⟩ := q
    exact ⟨τ1, G1, I1.ofTry ok, w1⟩
  | ret u =>
    obtain ⟨v1, τ1, G1, I1, r1, w1⟩ := q
    exact ⟨v1, τ1, G1, I1.ofTry ok, r1, w1⟩
end
end Eyes

set_option Elab.async false
set_option linter.all false
set_option maxRecDepth 100000
set_option maxHeartbeats 4000000
/-! Defs that may raise an own error; own errors that bear what they are given. -/
namespace Eyes
open PySem PySem.Spec PyProof.Rows L2
def PrX (P : Program) (w : World) (K : PySem.W.Frag) (mg : Str → Option Value) (base : Heap) (x : Str) (st : Stmt) (ps : List Str) (k : Nat) (sp : Sp) : Prop :=
  ∃ (f : Addr) (fd : FuncData), mg x = some (.ref f) ∧ Fun K x x st f fd ∧ Binds K fd ps [] ∧ FnOk P w K mg base (L2.CX P w) k f fd ps sp
section
variable {P : Program} {w : World} {K : PySem.W.Frag} {mg : Str → Option Value} {base : Heap}
theorem prx_mk {x : Str} {st : Stmt} {N ps : List Str} {k : Nat} {sp : Sp} (A : FnAt K mg x st ps) (S : FnScope N ps (defScope st)) (len : ∀ vs H Q E, sp vs H Q E → vs.length = ps.length)
    (hbody : ∀ (f : Addr) (cdv : Value) (A : Around) (outer : List Env) (s : Shared) (H : Hp) (vs : List V) (Q : VK) (E : XK), Room k (A.deeper (envOfC x (defScope st) s.heap.objs.size f cdv)) → sp vs H Q E →
      Takes (cxOf (L2.CX P w) P w K mg base N x (defScope st) f cdv A outer s H E) (fun cls d _ G => E cls d G) →
      ∃ t, PSs (cxOf (L2.CX P w) P w K mg base N x (defScope st) f cdv A outer s H E) (defBody st) t ∧ t { nx := fun _ H' => Q .non H', rt := Q } (start N vs) H) : PrX P w K mg base x st ps (k + 1) sp := by
  obtain ⟨f, fd, F, hb, hm⟩ := A
  exact ⟨f, fd, hm, F, hb, F.okX S len fun cdv A outer s H vs Q E hr h => hbody f cdv A outer s H vs Q E hr h (takes_of rfl rfl rfl rfl)⟩
theorem noneX : ∀ {outer : List Env} {s : Shared} {H : Hp} {e : Value} {s' : Shared}, L2.CX P w outer H s (fun _ _ _ => False) e s' → False := fun {outer s H e s'} h => by
  obtain ⟨_, _, _, _, _, _, _, _, _, _, _, _, z⟩ := h
  exact z
end
section
variable {X : Cx} {x : Str} {st : Stmt} {ps : List Str} {sp : Sp} {e : Expr} {es : List Expr} {kws : List Keyword} {p pos : Pos} {t tk : TA} {W : WX}
theorem pcallX {j k : Nat} (G : PrX X.prog X.w X.K X.mg X.base x st ps j sp) (hr : Room k X.A) (tk : Takes X W) (ha : PA X (e :: es) t) (hj : j ≤ k := by first | decide | omega) (hg : Gl X x := by rfl)
    (hdb : (x == ("__debug__" : Str)) = false := by decide) (he : starEach (e :: es) X.env = (false, eval e X.env) :: starEach es X.env := by rfl) (hpl : (backTo pos (starEach es X.env)).any (·.1) = false := by rfl) :
    PE X (.Call (.Name x p) (e :: es) [] pos) (tCallS sp (WE W) t) := by
  obtain ⟨f, fd, hm, F0, hb, F⟩ := G
  exact pe_callS F (hr.mono hj) hg hm F0.kp hb (fun σ => passAt tk σ) ha hdb he hpl
theorem pcallY {j k : Nat} (G : PrX X.prog X.w X.K X.mg X.base x st ps j sp) (hr : Room k X.A) (ha : PA X (e :: es) t) (hj : j ≤ k := by first | decide | omega) (hg : Gl X x := by rfl)
    (hdb : (x == ("__debug__" : Str)) = false := by decide) (he : starEach (e :: es) X.env = (false, eval e X.env) :: starEach es X.env := by rfl) (hpl : (backTo pos (starEach es X.env)).any (·.1) = false := by rfl) :
    PE X (.Call (.Name x p) (e :: es) [] pos) (tCall sp [] (fun _ _ _ => False) t) := by
  obtain ⟨f, fd, hm, F0, hb, F⟩ := G
  exact pe_call F (hr.mono hj) hg hm F0.kp hb .nil (fun _ _ _ _ _ _ _ h => (noneX h).elim) ha hdb he hpl
theorem pcallYN0 {j k : Nat} {ks : List Str} {is : List Nat} (G : PrX X.prog X.w X.K X.mg X.base x st ps j sp) (hk : KwOk x st ps 0 ks is) (hr : Room k X.A) (hkw : PK X kws tk) (hj : j ≤ k := by first | decide | omega) (hg : Gl X x := by rfl)
    (hall : (backToKw pos (keywordEach kws X.env)).all (·.1.isSome) = true := by rfl) (hks : (backToKw pos (keywordEach kws X.env)).filterMap (·.1) = ks := by rfl)
    (hdb : (x == ("__debug__" : Str)) = false := by decide)
    (hpl : ((backTo pos (starEach [] X.env)).any (·.1) || (backToKw pos (keywordEach kws X.env)).any (·.1.isNone)) = false := by rfl) :
    PE X (.Call (.Name x p) [] kws pos) (tCallN 0 ks.length sp (fun vs zs => pick is (vs ++ zs)) (fun _ _ _ => False) tNil tk) := by
  obtain ⟨f, fd, hm, F0, hb, F⟩ := G
  refine ⟨fun pins s σ H Q I h => wpAny_Call_Name_kw (ld_glob I hg hm ?_ hdb)⟩
  refine PySem.W.callWith_KW0 (h₀ := X.base) I.ok.mod.kin F0.kp hall (thn (hkw.run pos pins s σ H _ I h) fun ws s2 ⟨zs, H2, I2, rz, l1, l2, q2⟩ => ⟨I2.kIn, ?_⟩) hpl
  rw [hks]
  exact run_fnN (us := []) (vs := []) F (hr.mono hj) (kbn F0 hk) (fun _ _ _ _ _ _ _ h => (noneX h).elim) I2 .nil rz rfl l2 q2
end
/-! ### own errors -/
structure ErrAt (K : PySem.W.Frag) (mg : Str → Option Value) (x : Str) (C : Addr) (qual : Str) (st : Stmt) (ps : List Str) : Prop where
  gC : mg x = some (.ref C)
  oex : OexC K C
  xf : XfC K C
  fn : ∃ (f : Addr) (fd : FuncData), PySem.W.findIn K (.ref C) "__init__" = some (some (.ref f)) ∧ PySem.W.typeIn K (.ref f) = some (.type "function") ∧ Fun K "__init__" qual st f fd ∧ Binds K fd ps []
theorem errAt_mk {K : PySem.W.Frag} {h : Heap} {mg : Str → Option Value} (X : K.In h) (G : h.Ns mainGlobals mg) {x qual : Str} {C f : Addr} {st : Stmt} {ps : List Str} {oc : Value} {od an : Option Addr} {osl : Array (Option Value)} {kV doc pm cdv ct : Value}
    {nm q : Str} {N : Addr} {bs bm sub : List Value} {sn : List Str} {ab : Bool} {col : Option Bool} {dd : Option Addr} {k0 k1 k2 k3 k5 : Option Value}
    (a : PySem.W.nsIn K mainGlobals x = some (some (.ref C))) (c1 : K.lookup C = some (excClassObj nm q C N bs bm true sn sub ab col dd k0 k1 k2 k3 k5 "ValueError.__new__")) (c2 : PySem.HandSPX.refsVE bm = true)
    (c3 : PySem.W.findIn K (.ref C) "__setattr__" = some (some (.builtin "object.__setattr__"))) (c4 : PySem.W.subIn K (.ref C) (.type "BaseException") = some true) (c5 : PySem.W.typeIn K (.ref C) = some (.type "type")) (c6 : PySem.W.keepIn K (.ref C) = true)
    (c7 : xfB K C = true) (i1 : PySem.W.findIn K (.ref C) "__init__" = some (some (.ref f))) (i2 : PySem.W.typeIn K (.ref f) = some (.type "function"))
    (l : K.lookup f = some ⟨oc, od, .func (PySem.W.fnOf "__init__" qual (defArgs st) (defBody st) (defScope st) .none kV doc pm an cdv ct), osl⟩) (c : PySem.W.codeIn K cdv qual = true) (k : PySem.W.keepIn K (.ref f) = true) (hb : BindH "__init__" qual st ps) : ErrAt K mg x C qual st ps :=
  ⟨PySem.W.mg_of X G a, ⟨⟨_, _, _, _, _, _, _, _, _, _, _, _, _, _, _, c1, c2⟩, c3, c4, c5, c6⟩, xfB_ok c7, f, _, i1, i2, fun_mk l c k, (fun_mk l c k).binds hb⟩
def spErr1 (C : Addr) (g : Str) : Sp := fun vs H Q _ => ∃ (a : Addr) (v : V), vs = [.ref a, v] ∧ H a = some (exo a C none) ∧ ∀ d, H d = none → d ≠ a → Q .non (upd (upd H d (exd d [(g, v)])) a (exo a C (some d)))
theorem gone_to {H1 : Hp} {a d : Addr} {o1 o2 o3 o4 : HO} (n : H1 a = none) (ne : d ≠ a) : upd (del (upd (upd (upd H1 a o1) d o2) a o3) a) d o4 = upd H1 d o4 := by
  funext b
  by_cases hb : b = d
  · rw [hb, upd_same, upd_same]
  · rw [upd_ne hb, upd_ne hb]
    by_cases ha : b = a
    · rw [ha, del_same, n]
    · rw [del_ne ha, upd_ne ha, upd_ne hb, upd_ne ha]
section
variable {X : Cx} {W : WX} {e : Expr} {ta : TA} {p pos pos2 : Pos} {x g qual : Str} {C : Addr} {st : Stmt} {ps : List Str} {j k : Nat}
theorem raise1_by {H1 : Hp} {v : V} {Q : XK} (q : ∀ d, H1 d = none → Q (.ref C) (some d) (upd H1 d (.xd [(g, v)]))) :
    [v].length ≤ 1000 ∧ ∀ a, H1 a = none → spErr1 C g (.ref a :: ([v] ++ [])) (upd H1 a (exo a C none)) (fun v H2 => v = .non ∧ ∃ (d : Addr) (fs : List (Str × V)), H2 a = some (exo a C (some d)) ∧ H2 d = some (exd d fs) ∧ H1 d = none ∧ Q (.ref C) (some d) (upd (del H2 a) d (.xd fs))) (fun _ _ _ => False) := by
  refine ⟨by show 1 ≤ 1000; decide, fun a na => ⟨a, v, rfl, upd_same, fun d nd ne => ?_⟩⟩
  rw [upd_ne ne] at nd
  refine ⟨rfl, d, _, upd_same, (upd_ne ne).trans upd_same, nd, ?_⟩
  rw [gone_to na ne]
  exact q d nd
theorem ps_raise1 (T : ErrAt X.K X.mg x C qual st ps) (F : ∀ f fd, Fun X.K "__init__" qual st f fd → Binds X.K fd ps [] → FnOk X.prog X.w X.K X.mg X.base CX0 j f fd ps (spErr1 C g)) (hc : X.calm = true) (tk : Takes X W) (hr : Room k X.A) (ha : PA X [e] ta) (hj : j + 1 ≤ k := by first | decide | omega) (hg : Gl X x := by rfl)
    (hdb : (x == ("__debug__" : Str)) = false := by decide) (he : starEach [e] X.env = (false, eval e X.env) :: starEach [] X.env := by rfl) (hpl : (backTo pos (starEach [] X.env)).any (·.1) = false := by rfl) :
    PS X (.Raise (some (.Call (.Name x p) [e] [] pos)) none pos2) (fun _ σ H => tMkO C (spErr1 C g) [] ta σ H fun cls d H' => W cls d σ H') := by
  obtain ⟨f, fd, i1, i2, F0, hb⟩ := T.fn
  exact ps_raise hc tk (pmk_oex T.oex i1 i2 (F f fd F0 hb) (hr.mono hj) hb .nil (fun _ _ _ _ _ _ _ h => h.elim) hg T.gC ha hdb he hpl)
end
end Eyes

set_option Elab.async false
set_option linter.all false
set_option maxRecDepth 100000
set_option maxHeartbeats 4000000
/-! Lambdas handed on through several defs. -/
namespace Eyes
open PySem PySem.Spec PyProof.Rows L2 LamX
def CallF (P : Program) (w : World) (K : PySem.W.Frag) (mg : Str → Option Value) (base : Heap) (k : Nat) (fr : List Addr) (H0 : Hp) (h0 : Heap) (f c' : Addr) (q : Str) (tl : XK → Hp → VK → Prop) : Prop :=
  ∀ (A : Around) (outer : List Env) (s1 : Shared) (HZ : Hp) (Q : VK) (E : XK), Room (k + 1) A → Env0 P w K mg base A outer s1 HZ → Un fr [] H0 HZ h0 s1.heap → HZ c' = some (CodeO c' q) → tl E HZ Q →
    PySem.W.FnAt f s1.heap ∧ codeAny (model P w) A (.call (.ref f) ⟨[], []⟩) (CR (L2.CX P w) outer P w HZ s1 Q E) s1
section
variable {X : Cx} {pins : List (Addr × Obj)} {σ : L2.St} {H : Hp} {s : Shared}
theorem callF_of {f c' : Addr} {pm ctv : Value} {params : Arguments} {body : Expr} {scope : Scope} {k : Nat} {tb : XK → TE}
    (I : Inv X pins σ H s) (L : LamS X.env.scope scope) (hf : s.heap.get? f = some (PySem.W.kla_obj "<lambda>" (X.env.qual ++ "<lambda>") params body scope (cloFrom X.env.cells scope.names []) pm c' ctv)) (hfn : H f = none) (hfr : f ∉ frs X.stack)
    (hbind : bindArgs (PySem.W.kla_fn "<lambda>" (X.env.qual ++ "<lambda>") params body scope (cloFrom X.env.cells scope.names []) pm (.ref c') ctv) ⟨[], []⟩ = pure [])
    (hbody : ∀ (A : Around) (outer : List Env) (s : Shared) (H : Hp) (E : XK), Room k (A.deeper (lamEnv X scope s.heap.objs.size f c')) → PE (lamCx X A outer s H E scope f c') body (tb E)) :
    CallF X.prog X.w X.K X.mg X.base k (frs X.stack) H s.heap f c' (X.env.qual ++ "<lambda>") (fun E HZ Q => tb E σ HZ Q) := by
  intro A outer s1 HZ Q E hr e0 un hc ht
  have of1 : s1.heap.get? f = some (PySem.W.kla_obj "<lambda>" (X.env.qual ++ "<lambda>") params body scope (cloFrom X.env.cells scope.names []) pm c' ctv) := un.keep f _ hf hfn hfr (fun z => nomatch (show f ∈ ([] : List Addr) from z))
  obtain ⟨⟨oc, vs, t, hoc, hdc, hvc⟩, _, _⟩ := e0.hok c' _ hc
  have lim : s1.heap.NoLimit := e0.mod.nolimit.keeps fun b o e => (e0.bs b o e).1
  refine ⟨⟨_, _, _, _, of1⟩, ?_⟩
  refine PySem.W.kla_callFunE hr.depth of1 rfl L.co L.gen rfl ⟨c', oc, vs, t, rfl, hoc, hdc, hvc⟩ ?_
  rw [hbind]
  refine wpAny_pure (wpAny_newFunctionEnv (fun y hy => (L.own y hy).2) (fun y hy => absurd hy (by simp)) (fun h₁ hns hsb => ⟨lim.fresh _ hsb, ?_⟩) L.kind)
  show codeAny _ _ (.expr body (lamEnv X scope s1.heap.objs.size f c')) _ _
  have kp : ∀ b o, s1.heap.get? b = some o → h₁.get? b = some o := fun b o e => hsb.extBut b o (Nat.ne_of_lt (Heap.lt_size e)) (Heap.get?_push_of_some _ e)
  have J : Inv (lamCx X A outer s1 HZ E scope f c') [] σ HZ { s1 with heap := h₁, toks := s1.toks + ([] : List (Str × Value)).length } :=
    lam_start2 I L e0 hr.hd un hns kp
  refine PySem.W.kla_codeExpr (wpAny_mono ((hbody _ _ s1 HZ E (hr.deeper _)).run [] _ _ HZ Q J ht) (fun v s' hq => ?_) fun e s' hq => hq)
  obtain ⟨w', H', J', rv, q⟩ := hq
  exact ⟨w', H', J'.os, J'.bare, J'.base, J'.hok, rv, q⟩
end
theorem CallF.step {P : Program} {w : World} {K : PySem.W.Frag} {mg : Str → Option Value} {base : Heap} {k : Nat} {fr fr' : List Addr} {H0 H1 : Hp} {h0 h1 : Heap} {f c' : Addr} {q : Str} {tl : XK → Hp → VK → Prop} (C : CallF P w K mg base k fr H0 h0 f c' q tl) (u : Un fr [] H0 H1 h0 h1)
    (hs : ∀ b ∈ fr', b ∈ fr ∨ h0.get? b = none) (hs2 : ∀ b ∈ fr, b ∈ fr') : CallF P w K mg base k fr' H1 h1 f c' q tl := by
  intro A outer s1 HZ Q E hr e0 un hc ht
  have v := (u.mono (fs' := fr') (ex' := []) hs2 fun _ z => z).trans un
  exact C A outer s1 HZ Q E hr e0 ⟨fun b o q n hb hx => v.keep b o q n (fun z => (hs b z).elim hb fun z2 => by rw [z2] at q; cases q) hx, fun b o q n hb hx => v.any q n hx, v.free, v.there, v.tups, v.frzs, v.tbls⟩ hc ht
theorem pe_ask {CXg : CXT} {P : Program} {w : World} {K : PySem.W.Frag} {mg : Str → Option Value} {base : Heap} {Eg : XK} {Ng : List Str} {qg : Str} {sg : Scope} {g f c' : Addr} {cdg : Value} {A : Around} {outer : List Env} {s : Shared} {H : Hp} {k i : Nat} {a q : Str} {pn : List (Addr × Obj)} {xe : Value → Shared → Prop} {W : WX} {E : XK} {tl : XK → Hp → VK → Prop} {p1 p2 : Pos}
    (C : CallF P w K mg base k (frs outer) H s.heap f c' q tl)
    (tk : Takes ((cxOf CXg P w K mg base Ng qg sg g cdg A outer s H Eg).tr pn xe) W) (hW : ∀ cls d σ' H', E cls d H' → W cls d σ' H') (hr : Room (k + 1) (A.deeper (envOfC qg sg s.heap.objs.size g cdg)))
    (hN : Ng[i]? = some a) (hv : Vis sg a) (hd : (a == ("__debug__" : Str)) = false := by decide) (hcd : (a == ("__classdict__" : Str)) = false := by decide) :
    PE ((cxOf CXg P w K mg base Ng qg sg g cdg A outer s H Eg).tr pn xe) (.Call (.Name a p1) [] [] p2)
      (fun σZ HZ Q => σZ[i]? = some (some (.ref f)) ∧ HZ c' = some (CodeO c' q) ∧ tl E HZ Q) := by
  refine ⟨fun pinsZ sZ σZ HZ Q IZ h => ?_⟩
  obtain ⟨hs, hc, ht⟩ := h
  refine wpAny_Call_Name_kw (thn ((pe_var (pos := p1) (i := i) hN hv hd hcd).run pinsZ sZ σZ HZ (fun v H1 => v = .ref f ∧ H1 = HZ) IZ ⟨.ref f, hs, rfl, rfl⟩) fun u s1 ⟨v, H1, I1, r1, q1⟩ => ?_)
  obtain ⟨ev, eH⟩ := q1
  subst ev
  rw [eH] at I1
  obtain rfl : u = Value.ref f := r1
  have un : Un (frs outer) [] H HZ s.heap s1.heap := I1.base
  obtain ⟨fa, rc⟩ := C _ _ s1 HZ Q E hr I1.env0 un hc ht
  refine PySem.W.callWith_F0 fa ?_
  have hx : Passes (L2.CX P w) ((cxOf CXg P w K mg base Ng qg sg g cdg A outer s H Eg).tr pn xe) E := passes_call tk hW
  refine wpAny_call (codeAny_mono rc fun r s' hq => ?_)
  cases r with
  | error e => exact hx pinsZ σZ HZ s1 e s' I1 hq
  | ok fl =>
    cases fl with
    | ret u => exact I1.after hq
    | next => exact False.elim hq
    | brk => exact False.elim hq
    | cont => exact False.elim hq
def FnC (P : Program) (w : World) (K : PySem.W.Frag) (mg : Str → Option Value) (base : Heap) (kk k : Nat) (g : Addr) (TT : (XK → Hp → VK → Prop) → Hp → VK → Prop) : Prop :=
  ∀ (A : Around) (outer : List Env) (s : Shared) (H : Hp) (f c' : Addr) (q : Str) (tl : XK → Hp → VK → Prop) (Q : VK), Room k A → Env0 P w K mg base A outer s H → CallF P w K mg base kk (frs outer) H s.heap f c' q tl → H c' = some (CodeO c' q) → TT tl H Q →
    codeAny (model P w) A (.call (.ref g) ⟨[.ref f], []⟩) (CR C8.CX0 outer P w H s Q C8.E0) s
def PrC (P : Program) (w : World) (K : PySem.W.Frag) (mg : Str → Option Value) (base : Heap) (x : Str) (kk k : Nat) (TT : (XK → Hp → VK → Prop) → Hp → VK → Prop) : Prop :=
  ∃ g : Addr, mg x = some (.ref g) ∧ PySem.W.keepIn K (.ref g) = true ∧ FnC P w K mg base kk k g TT
theorem prC_mk {P : Program} {w : World} {K : PySem.W.Frag} {mg : Str → Option Value} {base : Heap} {x a : Str} {st : Stmt} {N : List Str} {kk k : Nat} {TT : (XK → Hp → VK → Prop) → Hp → VK → Prop} (FA : FnAt K mg x st [a]) (S : FnScope N [a] (defScope st))
    (hbody : ∀ (g : Addr) (cdg : Value) (A : Around) (outer : List Env) (s : Shared) (H : Hp) (f c' : Addr) (q : Str) (tl : XK → Hp → VK → Prop) (Q : VK), Room k (A.deeper (envOfC x (defScope st) s.heap.objs.size g cdg)) → CallF P w K mg base kk (frs outer) H s.heap f c' q tl → H c' = some (CodeO c' q) → TT tl H Q →
      ∃ t, PSs (cxOf C8.CX0 P w K mg base N x (defScope st) g cdg A outer s H C8.E0).nox (defBody st) t ∧ t { nx := fun _ H' => Q .non H', rt := Q } (L2.start N [.ref f]) H) : PrC P w K mg base x kk (k + 1) TT := by
  obtain ⟨g, fd, F, hb, hm⟩ := FA
  refine ⟨g, hm, F.kp, fun A outer s H f c' q tl Q hr e0 C hc ht => ?_⟩
  obtain ⟨oc, od, kV, doc, pm, an, cdv, ct, osl, rfl, lk, hcd⟩ := F.ex
  have KX : K.In s.heap := e0.mod.kin.keeps fun b o e => (e0.bs b o e).1
  refine run_ofS (N := N) (ps := [a]) (us := [.ref f]) (vs := [.ref f]) lk hcd S hr e0 (hb s [.ref f] KX rfl) (.cons rfl .nil) rfl fun hr' => ?_
  obtain ⟨t', ht', hq'⟩ := hbody g cdv A outer s H f c' q tl Q hr' C hc ht
  exact ⟨t', ht'.nox, hq'⟩
theorem pe_hand {CXg : CXT} {P : Program} {w : World} {K : PySem.W.Frag} {mg : Str → Option Value} {base : Heap} {Eg : XK} {Ng : List Str} {qg : Str} {sg : Scope} {g f c' : Addr} {cdg : Value} {A : Around} {outer : List Env} {s : Shared} {H : Hp} {kk j k i : Nat} {a q x : Str} {tl : XK → Hp → VK → Prop} {TT : (XK → Hp → VK → Prop) → Hp → VK → Prop} {p0 p1 p2 : Pos}
    (G : PrC P w K mg base x kk j TT) (C : CallF P w K mg base kk (frs outer) H s.heap f c' q tl) (hr : Room k (A.deeper (envOfC qg sg s.heap.objs.size g cdg))) (hN : Ng[i]? = some a) (hv : Vis sg a) (hj : j ≤ k := by first | decide | omega)
    (hg : Gl (cxOf CXg P w K mg base Ng qg sg g cdg A outer s H Eg).nox x := by rfl) (hdb : (x == ("__debug__" : Str)) = false := by decide) (hd : (a == ("__debug__" : Str)) = false := by decide) (hcd : (a == ("__classdict__" : Str)) = false := by decide) :
    PE (cxOf CXg P w K mg base Ng qg sg g cdg A outer s H Eg).nox (.Call (.Name x p0) [.Name a p1] [] p2)
      (fun σZ HZ Q => σZ[i]? = some (some (.ref f)) ∧ HZ c' = some (CodeO c' q) ∧ TT tl HZ Q) := by
  obtain ⟨gx, hm, hk, F⟩ := G
  refine ⟨fun pinsZ sZ σZ HZ Q IZ h => ?_⟩
  obtain ⟨hs, hc, ht⟩ := h
  refine wpAny_Call_Name_kw (ld_glob IZ hg hm ?_ hdb)
  refine PySem.W.callWith_K (h₀ := base) IZ.ok.mod.kin hk ?_ (by rfl) (by rfl)
  refine Calls.spliced_cons (thn ((pe_var (pos := p1) (i := i) hN hv hd hcd).run pinsZ sZ σZ HZ (fun v H1 => v = .ref f ∧ H1 = HZ) IZ ⟨.ref f, hs, rfl, rfl⟩) fun u s1 ⟨v, H1, I1, r1, q1⟩ => ?_)
  obtain ⟨ev, eH⟩ := q1
  subst ev
  rw [eH] at I1
  obtain rfl : u = Value.ref f := r1
  refine Calls.spliced_nil ⟨I1.kIn, ?_⟩
  have un : Un (frs outer) [] H HZ s.heap s1.heap := I1.base
  have rc := F (A.deeper (envOfC qg sg s.heap.objs.size g cdg)) _ s1 HZ f c' q tl Q (hr.mono hj) I1.env0 (C.step un (fun b hb => ?_) (fun b hb => ?_)) hc ht
  · refine wpAny_call (codeAny_mono rc fun r s2 hq => ?_)
    cases r with
    | error e => exact (show False from hq).elim
    | ok fl =>
      cases fl with
      | ret u => exact I1.after hq
      | next => exact False.elim hq
      | brk => exact False.elim hq
      | cont => exact False.elim hq
  · rcases List.mem_cons.mp (show b ∈ s.heap.objs.size :: frs outer from hb) with e | e
    · exact .inr (by rw [e]; exact Heap.get?_none_of_le (Nat.le_refl _))
    · exact .inl e
  · exact List.mem_cons_of_mem _ hb
section
variable {X : Cx}
theorem pe_lamh {T : List (Addr × Str)} {TT : (XK → Hp → VK → Prop) → Hp → VK → Prop} {x : Str} {c P : Addr} {kk j k : Nat} {params : Arguments} {body : Expr} {scope : Scope} {t : XK → TE} {p lpos pos : Pos} (G : PrC X.prog X.w X.K X.mg X.base x kk j TT) (hg : Gl X x)
    (TB : TabB X.base X.mg c P) (hcode : X.env.code = .ref c) (hmT : (P, X.env.qual ++ "<lambda>") ∈ T) (hu : ∀ p ∈ T, p.1 = P → p.2 = X.env.qual ++ "<lambda>") (hr : Room k X.A) (hj : j ≤ k) (L : LamS X.env.scope scope) (hdef : defaultsOf params X.env = ([], []))
    (hbind : ∀ (q : Str) (cl : List (Str × Addr)) (pm cv ctv : Value), bindArgs (PySem.W.kla_fn "<lambda>" q params body scope cl pm cv ctv) ⟨[], []⟩ = pure [])
    (hbody : ∀ (A : Around) (outer : List Env) (s : Shared) (H : Hp) (E : XK) (f c' : Addr), Room kk (A.deeper (lamEnv X scope s.heap.objs.size f c')) → PE (lamCx X A outer s H E scope f c') body (t E))
    (hdb : (x == ("__debug__" : Str)) = false := by decide) :
    PE X (.Call (.Name x p) [.Lambda params body scope lpos] [] pos) (tLam T TT t) := by
  obtain ⟨g, hm, hk, F⟩ := G
  refine ⟨fun pins s σ H Q I h => ?_⟩
  obtain ⟨hT, h⟩ := h
  refine wpAny_Call_Name_kw (ld_glob I hg hm ?_ hdb)
  refine PySem.W.callWith_K (h₀ := X.base) I.ok.mod.kin hk ?_ (by rfl) (by rfl)
  show wpAny _ _ (spliced ((false, eval (.Lambda params body scope lpos) X.env) :: backTo pos (starEach [] X.env))) _ _ s
  refine Calls.spliced_cons (lam_make2 I TB hcode hmT hu hT hdef (L.has I.ok) fun f c' pm' ctv H1 s' I1 eN T1 hf hfn hfr hco => ?_)
  refine Calls.spliced_nil ⟨I1.kIn, ?_⟩
  have rc := F X.A X.stack s' H1 f c' (X.env.qual ++ "<lambda>") (fun E H' Q' => t E σ H' Q') Q (hr.mono hj) I1.env0 (callF_of (k := kk) I1 L hf hfn hfr (hbind _ _ _ _ _) fun A outer s H E hr2 => hbody A outer s H E f c' hr2) hco (h H1 eN T1)
  refine wpAny_call (codeAny_mono rc fun r s2 hq => ?_)
  cases r with
  | error e => exact (show False from hq).elim
  | ok fl =>
    cases fl with
    | ret u => exact I1.after hq
    | next => exact False.elim hq
    | brk => exact False.elim hq
    | cont => exact False.elim hq
end
end Eyes

set_option Elab.async false
set_option linter.all false
set_option maxRecDepth 100000
set_option maxHeartbeats 4000000
/-! A lambda whose one parameter has a number as its default, made and handed on. -/
namespace Eyes
open PySem PySem.Spec PyProof.Rows L2 LamX
abbrev fnL (q : Str) (params : Arguments) (body : Expr) (scope : Scope) (cl : List (Str × Addr)) (dV pm cdv ctv : Value) : FuncData :=
  { name := "<lambda>", qualname := q, params, body := .expr body, scope, globals := mainGlobals, closure := cl, defaults := dV, kwdefaults := .none, doc := .none, pyModule := pm, annotations := none, code := cdv, closureTuple := ctv, builtins := builtinsNs }
abbrev obL (q : Str) (params : Arguments) (body : Expr) (scope : Scope) (cl : List (Str × Addr)) (dV pm cdv ctv : Value) : Obj := { cls := .type "function", data := .func (fnL q params body scope cl dV pm cdv ctv) }
abbrev obT (u : Value) : Obj := { cls := .type "tuple", data := .seq [u].toArray }
section
variable {M : Model} {A : Around} {E : Value → Shared → Prop} {s : Shared} {q : Str} {params : Arguments} {body : Expr} {scope : Scope} {env : Env} {c P : Addr} {ps : Array Value} {pos : Pos} {line : Nat} {mg : Str → Option Value} {cl : List (Str × Addr)} {Q : Value → Shared → Prop} {dV : Value}
theorem tail_new (hcl : closureFor scope env = pure cl) (eg : env.globals = mainGlobals) (g : s.heap.Ns mainGlobals mg) (ec : env.code = .ref c) (C : PySem.W.CodeHd s.heap c P) (eP : s.heap.get? P = some (PySem.W.tabObj ps)) (ht : TriplesOk ps.toList)
    (nf : codeAmong pos ps.toList = none) (gP : mainGlobals ≠ P) (bl : s.heap.BuiltinsAt mg P)
    (fin : ∀ (c' : Addr) (ctv : Value) (g' : Heap) (tk : Tok), Heap.ExtBut P s.heap g' → s.heap.objs.size ≤ c' → c' < g'.objs.size → g'.CodeRec (.ref c') q → g'.get? P = some (PySem.W.tabObj (ps ++ #[rawInt pos.line, rawInt pos.col, .ref c'])) →
      Q (.ref g'.objs.size) { s with heap := g'.push (obL q params body scope cl dV ((mg "__name__").getD .none) (.ref c') ctv), toks := tk }) :
    wpAny M A (makeTail "<lambda>" q params (.expr body) scope env dV .none none pos line) Q E s := by
  obtain ⟨b1, b2, k1, k2, k3, k4, k5, k6, k7, k8⟩ := bl
  unfold makeTail
  rw [hcl, eg]
  refine wpAny_bind (wpAny_pure ?_)
  cases cl with
  | nil =>
    simp only [List.isEmpty_nil, if_true]
    refine wpAny_bind (wpAny_pure (wpAny_bind (wpAny_functionCodeX ec (C.code eP ht) (C.tab eP) nf fun c' g' tk hx h1 h2 _ h3 h4 _ => ?_)))
    have G := g.extBut hx gP
    exact wpAny_bind (wpAny_builtinsFor G k1 k2 (hx _ _ k4 k5) k6 k7 k8 (wpAny_bind (wpAny_nsGet G (wpAny_bind (wpAny_pure (wpAny_newObj_type (fin c' .none g' tk hx h1 h2 h3 h4.2) (by size_fits)))))))
  | cons y r =>
    simp only [List.isEmpty_cons, Bool.false_eq_true, if_false]
    refine wpAny_bind (wpAny_newTextTuple (wpAny_bind (wpAny_functionCodeX ec ((C.keeps fun b o e => Heap.get?_push_of_some _ e).code (Heap.get?_push_of_some _ eP) ht) ((C.keeps fun b o e => Heap.get?_push_of_some _ e).tab (Heap.get?_push_of_some _ eP)) nf fun c' g' tk hx h1 h2 _ h3 h4 _ => ?_)))
    have G := (g.push _).extBut hx gP
    have old : Heap.ExtBut P s.heap g' := fun b o n e => hx b o n (Heap.get?_push_of_some _ e)
    have up : s.heap.objs.size ≤ c' := Nat.le_trans (by rw [Heap.size_push]; omega) h1
    exact wpAny_bind (wpAny_builtinsFor G k1 k2 (old _ _ k4 k5) k6 k7 k8 (wpAny_bind (wpAny_nsGet G (wpAny_bind (wpAny_pure (wpAny_newObj_type (fin c' _ g' tk old up h2 h3 h4.2) (by size_fits)))))))
theorem tail_old {cv : Value} (hcl : closureFor scope env = pure cl) (eg : env.globals = mainGlobals) (g : s.heap.Ns mainGlobals mg) (ec : env.code = .ref c) (C : PySem.W.CodeHd s.heap c P) (eP : s.heap.get? P = some (PySem.W.tabObj ps)) (ht : TriplesOk ps.toList)
    (hf : codeAmong pos ps.toList = some cv) (bl : s.heap.BuiltinsAt mg P)
    (fin : ∀ (ctv : Value) (g' : Heap) (tk : Tok), (∀ b o, s.heap.get? b = some o → g'.get? b = some o) → s.heap.objs.size ≤ g'.objs.size → Q (.ref g'.objs.size) { s with heap := g'.push (obL q params body scope cl dV ((mg "__name__").getD .none) cv ctv), toks := tk }) :
    wpAny M A (makeTail "<lambda>" q params (.expr body) scope env dV .none none pos line) Q E s := by
  obtain ⟨b1, b2, k1, k2, k3, k4, k5, k6, k7, k8⟩ := bl
  unfold makeTail
  rw [hcl, eg]
  refine wpAny_bind (wpAny_pure ?_)
  cases cl with
  | nil =>
    simp only [List.isEmpty_nil, if_true]
    exact wpAny_bind (wpAny_pure (wpAny_bind (wpAny_functionCode_hit ec (C.code eP ht) hf (wpAny_bind (wpAny_builtinsFor g k1 k2 k5 k6 k7 k8 (wpAny_bind (wpAny_nsGet g (wpAny_bind (wpAny_pure (wpAny_newObj_type (fin .none s.heap s.toks (fun _ _ e => e) (Nat.le_refl _)) (by size_fits)))))))))))
  | cons y r =>
    simp only [List.isEmpty_cons, Bool.false_eq_true, if_false]
    refine wpAny_bind (wpAny_newTextTuple (wpAny_bind (wpAny_functionCode_hit ec ((C.keeps fun b o e => Heap.get?_push_of_some _ e).code (Heap.get?_push_of_some _ eP) ht) hf (wpAny_bind (wpAny_builtinsFor (g.push _) k1 k2 (Heap.get?_push_of_some _ k5) k6 k7 k8 (wpAny_bind (wpAny_nsGet (g.push _) ?_)))))))
    have sz : ∀ ob : Obj, s.heap.objs.size ≤ (s.heap.push ob).objs.size := fun ob => by rw [Heap.size_push]; omega
    exact wpAny_bind (wpAny_pure (wpAny_newObj_type (fin _ _ s.toks (fun b o e => Heap.get?_push_of_some _ e) (sz _)) (by size_fits)))
end
structure LamN (N : List Str) (sc scope : Scope) : Prop where
  kind : scope.kind = .function
  co : scope.isCoroutine = false
  gen : scope.isGenerator = false
  cel : ∀ y ∈ scope.names, y.2 ≠ .cell
  loc : ∀ y ∈ scope.names, y.2 = .local → y.1 ∉ N
  free : ∀ y ∈ scope.names, y.2 = .free → sc.names.lookup y.1 = some .cell ∨ sc.names.lookup y.1 = some .free
def lamNB (N : List Str) (sc scope : Scope) : Bool :=
  decide (scope.kind = .function) && (!scope.isCoroutine && (!scope.isGenerator && scope.names.all fun y => !decide (y.2 = .cell) && ((!decide (y.2 = .local) || !N.contains y.1) && (!decide (y.2 = .free) || (decide (sc.names.lookup y.1 = some .cell) || decide (sc.names.lookup y.1 = some .free))))))
theorem lamN_by {N : List Str} {sc scope : Scope} (h : lamNB N sc scope = true) : LamN N sc scope := by
  unfold lamNB at h
  simp only [Bool.and_eq_true, Bool.or_eq_true, Bool.not_eq_true', decide_eq_true_eq, decide_eq_false_iff_not, List.all_eq_true, List.contains_eq_mem] at h
  obtain ⟨a1, a2, a3, a4⟩ := h
  refine ⟨a1, a2, a3, fun y hy => (a4 y hy).1, fun y hy e => ?_, fun y hy e => ?_⟩
  · rcases (a4 y hy).2.1 with z | z
    · exact absurd e z
    · exact z
  · rcases (a4 y hy).2.2 with z | z
    · exact absurd e z
    · exact z
theorem LamN.has {N : List Str} {X : Cx} {scope : Scope} (L : LamN N X.env.scope scope) (ok : X.Ok) : ∀ y ∈ scope.names, y.2 = .free → ∃ c, X.env.cells.lookup y.1 = some c := fun y hy e => by
  rcases L.free y hy e with k | k
  · exact ok.has _ (.inl k)
  · exact ok.has _ (.inr k)
section
variable {X : Cx} {pins : List (Addr × Obj)} {σ : L2.St} {H : Hp} {s : Shared}
theorem lam_makeD {T : List (Addr × Str)} {c P : Addr} {params : Arguments} {body : Expr} {scope : Scope} {pos kp : Pos} {ki : Nat} {z : Int} {E : Value → Shared → Prop} {Q : Value → Shared → Prop} (I : Inv X pins σ H s) (TB : TabB X.base X.mg c P) (ec : X.env.code = .ref c)
    (hm : (P, X.env.qual ++ "<lambda>") ∈ T) (hu : ∀ p ∈ T, p.1 = P → p.2 = X.env.qual ++ "<lambda>") (hT : Tabs T H) (hdef : defaultsOf params X.env = ([eval (.Constant (.int z) ki kp) X.env], [])) (hfree : ∀ y ∈ scope.names, y.2 = .free → ∃ c, X.env.cells.lookup y.1 = some c)
    (fin : ∀ (f c' t : Addr) (pm ctv : Value) (k : Tok) (G : Hp) (s' : Shared), Inv X pins σ G s' → ExtN H G → Tabs T G → s'.heap.get? f = some (obL (X.env.qual ++ "<lambda>") params body scope (cloFrom X.env.cells scope.names []) (.ref t) pm (.ref c') ctv) → G f = none → f ∉ frs X.stack →
      s'.heap.get? t = some (obT (.int z k)) → G t = none → t ∉ frs X.stack → G c' = some (CodeO c' (X.env.qual ++ "<lambda>")) → Q (.ref f) s') :
    wpAny (model X.prog X.w) X.A (eval (.Lambda params body scope pos) X.env) Q E s := by
  obtain ⟨ps, hP, ht, ha⟩ := hT _ hm
  rw [arm_eval_Lambda, hdef]
  show wpAny _ _ (do let dv ← evalAll [eval (.Constant (.int z) ki kp) X.env]; let kdv ← holding dv (evalAllOpt []); makeFunction "<lambda>" (X.env.qual ++ "<lambda>") params (.expr body) scope X.env dv kdv [] pos pos.line) _ _ _
  refine wpAny_bind ?_
  show wpAny _ _ (do let v ← eval (.Constant (.int z) ki kp) X.env; return v :: (← holding [v] (evalAll []))) _ _ _
  refine wpAny_bind (wpAny_mono ((pe_int (X := X.nox) (i := z) (j := ki) (pos := kp)).run pins s σ H (fun v G => v = .int z ∧ G = H) (I.wish _) ⟨rfl, rfl⟩) (fun u s1 ⟨v, G, I1, r1, ev, eG⟩ => ?_) (fun e s1 y => y.elim))
  subst ev
  rw [eG] at I1
  obtain ⟨k, rfl⟩ : ∃ k, u = .int z k := r1
  have I1 : Inv X pins σ H s1 := I1.wish _
  refine wpAny_bind (wpAny_holding (wpAny_pure (wpAny_pure (wpAny_bind (wpAny_holding (wpAny_pure ?_))))))
  rw [makeFunction_eq]
  simp only [List.zip_nil_right, List.filterMap_nil, List.isEmpty_nil, List.isEmpty_cons, Bool.false_eq_true, if_true, if_false, pure_bind]
  refine wpAny_bind (wpAny_newTextTuple ?_)
  have I2 : Inv X pins σ H { s1 with heap := s1.heap.push (obT (.int z k)) } := I1.kept fun b o e => Heap.get?_push_of_some _ e
  have nt : H s1.heap.objs.size = none := I1.hok.fresh (Nat.le_refl _)
  have bP : (s1.heap.push (obT (.int z k))).BuiltinsAt X.mg P := TB.bm.keeps I2.bk
  have eP : (s1.heap.push (obT (.int z k))).get? P = some { cls := .none, data := .fields ps } := I2.hok P _ hP
  have nofr : ∀ {s2 : Shared} (J : Inv X pins σ H s2) (f : Addr), s2.heap.objs.size ≤ f → f ∉ frs X.stack := fun {s2} J f hf y => by
    rcases List.mem_cons.mp (J.stkSub _ y) with e | e
    · have h1 := J.lt
      rw [← e] at h1
      exact Nat.lt_irrefl _ (Nat.lt_of_lt_of_le h1 hf)
    · exact J.nofs hf e
  have tAt : (s1.heap.push (obT (.int z k))).get? s1.heap.objs.size = some (obT (.int z k)) := Heap.get?_push_size _ rfl
  have sz2 : s1.heap.objs.size < (s1.heap.push (obT (.int z k))).objs.size := by rw [Heap.size_push]; omega
  cases hc : codeAmong pos ps.toList with
  | none =>
    refine tail_new (mg := X.mg) (c := c) (P := P) (ps := ps) (closure_ok hfree) I2.ok.glob (I2.mod.glob.keeps I2.bk) ec (TB.code.keeps I2.bk) eP ht hc TB.gP bP fun c' ctv g' tk hx hge hlt hrec htb => ?_
    obtain ⟨c2, oc, vs, t2, e2, hoc, hd, hv⟩ := hrec
    cases e2
    have hsz := Nat.le_trans hge (Nat.le_of_lt hlt)
    have nC : H c' = none := I2.hok.fresh hge
    have tP : s1.heap.objs.size ≠ P := fun e => by
      rw [← e] at hP
      rw [nt] at hP
      cases hP
    have I3 := inv_table (t' := tk) (more := #[rawInt pos.line, rawInt pos.col, .ref c']) (h' := g'.push (obL (X.env.qual ++ "<lambda>") params body scope (cloFrom X.env.cells scope.names []) (.ref s1.heap.objs.size) ((X.mg "__name__").getD .none) (.ref c') ctv)) I2 hP
      (fun b o hb e => Heap.get?_push_of_some _ (hx b o hb e)) (Heap.get?_push_of_some _ htb) hge ⟨oc, vs, t2, Heap.get?_push_of_some _ hoc, hd, hv⟩
    have hE : ExtN H (upd (upd H P (.tbl (ps ++ #[rawInt pos.line, rawInt pos.col, .ref c']))) c' (CodeO c' (X.env.qual ++ "<lambda>"))) := fun b o e n => by
      rw [upd_ne (ne_of_none e nC), upd_ne (fun y => n ps (Option.some.inj (e.symm.trans (by rw [y]; exact hP))))]
      exact e
    have eL : (ps ++ #[rawInt pos.line, rawInt pos.col, .ref c']).toList = ps.toList ++ [rawInt pos.line, rawInt pos.col, .ref c'] := by simp
    have t3 : (upd (upd H P (.tbl (ps ++ #[rawInt pos.line, rawInt pos.col, .ref c']))) c' (CodeO c' (X.env.qual ++ "<lambda>"))) s1.heap.objs.size = none := by
      rw [upd_ne (Nat.ne_of_lt (Nat.lt_of_lt_of_le sz2 hge)), upd_ne tP]
      exact nt
    refine fin g'.objs.size c' s1.heap.objs.size ((X.mg "__name__").getD .none) ctv k _ _ I3 hE (fun p hp => ?_) (Heap.get?_push_size _ rfl) ?_ (nofr I2 _ hsz) (Heap.get?_push_of_some _ (hx _ _ tP tAt)) t3 (nofr I1 _ (Nat.le_refl _)) upd_same
    · by_cases hb : p.1 = P
      · rw [hu p hp hb, hb]
        refine ⟨_, by rw [upd_ne (ne_of_none hP nC), upd_same], by rw [eL]; exact PySem.TriplesOk_snoc _ _ _ _ ht, fun p' cv hcv => ?_⟩
        rw [eL] at hcv
        rcases among_app _ ht hcv with y | y
        · obtain ⟨c0, e1, e2⟩ := ha p' cv y
          exact ⟨c0, e1, hE _ _ e2 codeO_ne⟩
        · exact ⟨c', y, upd_same⟩
      · obtain ⟨ps', a1, a2, a3⟩ := hT p hp
        refine ⟨ps', (upd_ne (ne_of_none a1 nC)).trans ((upd_ne hb).trans a1), a2, fun p' cv hcv => ?_⟩
        obtain ⟨c0, e1, e2⟩ := a3 p' cv hcv
        exact ⟨c0, e1, hE _ _ e2 codeO_ne⟩
    · rw [upd_ne (Nat.ne_of_gt hlt), upd_ne (Nat.ne_of_gt (Nat.lt_of_lt_of_le (Heap.lt_size eP) hsz))]
      exact I2.hok.fresh hsz
  | some cv =>
    obtain ⟨c', e, hco⟩ := ha pos cv hc
    subst e
    refine tail_old (mg := X.mg) (c := c) (P := P) (ps := ps) (closure_ok hfree) I2.ok.glob (I2.mod.glob.keeps I2.bk) ec (TB.code.keeps I2.bk) eP ht hc bP fun ctv g' tk hx hsz => ?_
    have I3 : Inv X pins σ H { s1 with heap := g'.push (obL (X.env.qual ++ "<lambda>") params body scope (cloFrom X.env.cells scope.names []) (.ref s1.heap.objs.size) ((X.mg "__name__").getD .none) (.ref c') ctv), toks := tk } := I2.kept fun b o e => Heap.get?_push_of_some _ (hx b o e)
    exact fin g'.objs.size c' s1.heap.objs.size ((X.mg "__name__").getD .none) ctv k H _ I3 (ExtN.refl H) hT (Heap.get?_push_size _ rfl) (I2.hok.fresh hsz) (nofr I2 _ hsz) (Heap.get?_push_of_some _ (hx _ _ tAt)) nt (nofr I1 _ (Nat.le_refl _)) hco
theorem lam_startD {A : Around} {outer : List Env} {E : XK} {scope : Scope} {f c' : Addr} {g1 : Heap} {tk : Nat} {HZ : Hp} {s1 : Shared} {bs : List (Str × Value)} (I : Inv X pins σ H s) (L : LamN X.N X.env.scope scope) (e0 : Env0 X.prog X.w X.K X.mg X.base A outer s1 HZ) (hd : A.handled = none)
    (un : Un (frs X.stack) [] H HZ s.heap s1.heap) (hns : g1.Ns s1.heap.objs.size fun y => bs.reverse.lookup y) (kp : ∀ b o, s1.heap.get? b = some o → g1.get? b = some o) :
    Inv (lamCx X A outer s1 HZ E scope f c') [] σ HZ { s1 with heap := g1, toks := tk } := by
  have hfree := L.has I.ok
  have cm : ∀ {y c}, (cloFrom X.env.cells scope.names []).lookup y = some c → X.env.cells.lookup y = some c := fun {y c} e => by
    rcases cloFrom_mem (PySem.mem_of_lookup e) with hm | ⟨m1, m2⟩
    · cases hm
    · obtain ⟨c1, hc⟩ := hfree _ m1 rfl
      have hc : X.env.cells.lookup y = some c1 := hc
      rw [show c = c1 by rw [m2, hc] <;> rfl]
      exact hc
  have look : ∀ {y}, scope.names.lookup y = some .free → ∃ c, (cloFrom X.env.cells scope.names []).lookup y = some c := fun {y} hl => mem_lookup (cloFrom_has (cells := X.env.cells) (acc := []) (PySem.mem_of_lookup hl))
  have cellK : ∀ {c : Addr} {v : Option Value}, H c = none → s.heap.IsCell c v → g1.IsCell c v := fun {c v} n ⟨o, ho, hd⟩ => by
    obtain ⟨sl, q⟩ := un.any ho n (by simp)
    exact ⟨_, kp _ _ q, hd⟩
  have noA : ∀ b : Addr, b ∉ (lamCx X A outer s1 HZ E scope f c').ex := fun b y => absurd (show b ∈ ([] : List Addr) from y) (by simp)
  have okH : ∀ y : Str, scope.names.lookup y = some .cell ∨ scope.names.lookup y = some .free → ∃ c, (cloFrom X.env.cells scope.names []).lookup y = some c := fun y hy => by
    rcases hy with hy | hy
    · exact absurd rfl (L.cel _ (PySem.mem_of_lookup hy))
    · exact look hy
  have okC : ∀ {p : Prop}, false = true → p := fun {p} y => by cases y
  have ok1 : (lamCx X A outer s1 HZ E scope f c').Ok := ⟨e0.mod, L.kind, rfl, rfl, Nat.le_refl _, (fun y y' c e1 e2 => I.ok.inj y y' c (cm e1) (cm e2)), (fun y hy => okH y hy), (fun y c y2 _ => okC y2), (fun _ => hd), Around.frames_deeper e0.frames, .inr ⟨rfl, rfl⟩, (fun b y => absurd y (noA b)), e0.bs, e0.bsz, (fun b _ _ => noA b), (fun b y => absurd y (noA b)), e0.funs, e0.frf⟩
  refine ⟨ok1, rfl, e0.bare, Un.kept kp, ⟨_, hns, fun i y v e1 e2 e3 => ?_⟩, fun y c e => ?_, e0.hok.fresh (Nat.le_refl _), fun y c e => ?_, fun q hq => absurd (show q ∈ ([] : List (Addr × Obj)) ++ [] from hq) (by simp), e0.hok.kept kp, I.len⟩
  · have yN : y ∈ X.N := List.mem_of_getElem? e1
    rcases (show Vis scope y from e3) with k | k | k
    · exact absurd yN (L.loc _ (PySem.mem_of_lookup k) rfl)
    · exact absurd rfl (L.cel _ (PySem.mem_of_lookup k))
    · obtain ⟨m, hn, hl⟩ := I.loc
      have free := L.free _ (PySem.mem_of_lookup k) rfl
      obtain ⟨w', r, q⟩ := hl i y v e1 e2 (free.elim (fun k => .inr (.inl k)) (fun k => .inr (.inr k)))
      obtain ⟨c2, h2⟩ := look k
      have c1 := cm h2
      refine ⟨w', r, .inr ⟨.inr k, c2, h2, ?_⟩⟩
      rcases q with ⟨k', _⟩ | ⟨_, c3, e', y3⟩
      · have k' : X.env.scope.names.lookup y = some .local := k'
        rcases free with k2 | k2 <;> rw [show X.env.scope.names.lookup y = _ from k2] at k' <;> cases k'
      · cases c1.symm.trans e'
        exact cellK (I.freeC y _ c1) y3
  · obtain ⟨w', y3⟩ := I.cell y c (cm e)
    exact ⟨w', cellK (I.freeC y c (cm e)) y3⟩
  · obtain ⟨v, o, ho, hd⟩ := I.cell y c (cm e)
    exact un.free c o ho (I.freeC y c (cm e)) (by simp)
def BindD (params : Arguments) (body : Expr) (scope : Scope) (a : Str) : Prop :=
  (∀ (q : Str) (cl : List (Str × Addr)) (t : Addr) (pm cv ctv u : Value), ∃ k, bindArgs (fnL q params body scope cl (.ref t) pm cv ctv) ⟨[], []⟩ = seqItems? (.ref t) >>= k ∧ k (some [u].toArray) = pure [(a, u)]) ∧ scope.names.lookup a = some .local
theorem callF_ofD {f c' t : Addr} {pm ctv u : Value} {params : Arguments} {body : Expr} {scope : Scope} {k : Nat} {tb : XK → TE} {a : Str}
    (I : Inv X pins σ H s) (L : LamN X.N X.env.scope scope) (hf : s.heap.get? f = some (obL (X.env.qual ++ "<lambda>") params body scope (cloFrom X.env.cells scope.names []) (.ref t) pm (.ref c') ctv)) (hfn : H f = none) (hfr : f ∉ frs X.stack)
    (hf2 : s.heap.get? t = some (obT u)) (hfn2 : H t = none) (hfr2 : t ∉ frs X.stack) (hb : BindD params body scope a)
    (hbody : ∀ (A : Around) (outer : List Env) (s : Shared) (H : Hp) (E : XK), Room k (A.deeper (lamEnv X scope s.heap.objs.size f c')) → PE (lamCx X A outer s H E scope f c') body (tb E)) :
    CallF X.prog X.w X.K X.mg X.base k (frs X.stack) H s.heap f c' (X.env.qual ++ "<lambda>") (fun E HZ Q => tb E σ HZ Q) := by
  intro A outer s1 HZ Q E hr e0 un hc ht
  have none_ : ∀ {b : Addr}, b ∉ ([] : List Addr) := fun {b} z => nomatch z
  have g1 := un.keep f _ hf hfn hfr none_
  have g2 := un.keep t _ hf2 hfn2 hfr2 none_
  obtain ⟨⟨oc, vs, tq, hoc, hdc, hvc⟩, _, _⟩ := e0.hok c' _ hc
  have lim : s1.heap.NoLimit := e0.mod.nolimit.keeps fun b o e => (e0.bs b o e).1
  obtain ⟨bk, e1, e2⟩ := hb.1 (X.env.qual ++ "<lambda>") (cloFrom X.env.cells scope.names []) t pm (.ref c') ctv u
  refine ⟨⟨_, _, _, _, g1⟩, PySem.W.kla_callFunE hr.depth g1 rfl L.co L.gen rfl ⟨c', oc, vs, tq, rfl, hoc, hdc, hvc⟩ ?_⟩
  rw [e1]
  refine wpAny_bind (wpAny_seqItems g2 rfl ?_)
  rw [e2]
  refine wpAny_pure (wpAny_newFunctionEnv (fun y hy => L.cel y hy) (fun y hy => ?_) (fun h₁ hns hsb => ⟨lim.fresh _ hsb, ?_⟩) L.kind)
  · rw [List.mem_singleton.mp hy]
    exact hb.2
  · show codeAny _ _ (.expr body (lamEnv X scope s1.heap.objs.size f c')) _ _
    have kp : ∀ b o, s1.heap.get? b = some o → h₁.get? b = some o := fun b o e => hsb.extBut b o (Nat.ne_of_lt (Heap.lt_size e)) (Heap.get?_push_of_some _ e)
    refine PySem.W.kla_codeExpr (wpAny_mono ((hbody _ _ s1 HZ E (hr.deeper _)).run [] _ _ HZ Q (lam_startD I L e0 hr.hd un hns kp) ht) (fun v s' ⟨w', H', J', rv, q⟩ => ?_) fun e s' hq => hq)
    exact ⟨w', H', J'.os, J'.bare, J'.base, J'.hok, rv, q⟩
end
section
variable {X : Cx}
theorem pe_lamD {T : List (Addr × Str)} {TT : (XK → Hp → VK → Prop) → Hp → VK → Prop} {x a : Str} {c P : Addr} {kk j k ki : Nat} {z : Int} {params : Arguments} {body : Expr} {scope : Scope} {t : XK → TE} {p lpos pos kp : Pos} (G : PrC X.prog X.w X.K X.mg X.base x kk j TT) (hg : Gl X x)
    (TB : TabB X.base X.mg c P) (hcode : X.env.code = .ref c) (hmT : (P, X.env.qual ++ "<lambda>") ∈ T) (hu : ∀ p ∈ T, p.1 = P → p.2 = X.env.qual ++ "<lambda>") (hr : Room k X.A) (hj : j ≤ k) (L : LamN X.N X.env.scope scope) (hdef : defaultsOf params X.env = ([eval (.Constant (.int z) ki kp) X.env], []))
    (hb : BindD params body scope a)
    (hbody : ∀ (A : Around) (outer : List Env) (s : Shared) (H : Hp) (E : XK) (f c' : Addr), Room kk (A.deeper (lamEnv X scope s.heap.objs.size f c')) → PE (lamCx X A outer s H E scope f c') body (t E))
    (hdb : (x == ("__debug__" : Str)) = false := by decide) :
    PE X (.Call (.Name x p) [.Lambda params body scope lpos] [] pos) (tLam T TT t) := by
  obtain ⟨g, hm, hk, F⟩ := G
  refine ⟨fun pins s σ H Q I h => ?_⟩
  obtain ⟨hT, h⟩ := h
  refine wpAny_Call_Name_kw (ld_glob I hg hm ?_ hdb)
  refine PySem.W.callWith_K (h₀ := X.base) I.ok.mod.kin hk ?_ (by rfl) (by rfl)
  show wpAny _ _ (spliced ((false, eval (.Lambda params body scope lpos) X.env) :: backTo pos (starEach [] X.env))) _ _ s
  refine Calls.spliced_cons (lam_makeD I TB hcode hmT hu hT hdef (L.has I.ok) fun f c' tt pm' ctv tk H1 s' I1 eN T1 hf hfn hfr hf2 hfn2 hfr2 hco => ?_)
  refine Calls.spliced_nil ⟨I1.kIn, ?_⟩
  have rc := F X.A X.stack s' H1 f c' (X.env.qual ++ "<lambda>") (fun E H' Q' => t E σ H' Q') Q (hr.mono hj) I1.env0 (callF_ofD (k := kk) I1 L hf hfn hfr hf2 hfn2 hfr2 hb fun A outer s H E hr2 => hbody A outer s H E f c' hr2) hco (h H1 eN T1)
  refine wpAny_call (codeAny_mono rc fun r s2 hq => ?_)
  cases r with
  | error e => exact (show False from hq).elim
  | ok fl =>
    cases fl with
    | ret u => exact I1.after hq
    | next => exact False.elim hq
    | brk => exact False.elim hq
    | cont => exact False.elim hq
end
end Eyes

set_option Elab.async false
set_option linter.all false
set_option maxRecDepth 100000
set_option maxHeartbeats 4000000
/-! What was handed on is asked within a try. -/
namespace Eyes
open PySem PySem.Spec PyProof.Rows L2 LamX
theorem pe_ask2 {CXg : CXT} {P : Program} {w : World} {K : PySem.W.Frag} {mg : Str → Option Value} {base : Heap} {Eg : XK} {Ng : List Str} {qg : Str} {sg : Scope} {g f c' : Addr} {cdg : Value} {A : Around} {outer : List Env} {s : Shared} {H : Hp} {k i : Nat} {a q : Str} {pn : List (Addr × Obj)} {xe : Value → Shared → Prop} {W : WX} {tl : XK → Hp → VK → Prop} {p1 p2 : Pos}
    (C : CallF P w K mg base k (frs outer) H s.heap f c' q tl)
    (tk : Takes ((cxOf CXg P w K mg base Ng qg sg g cdg A outer s H Eg).tr pn xe) W) (hr : Room (k + 1) (A.deeper (envOfC qg sg s.heap.objs.size g cdg)))
    (hN : Ng[i]? = some a) (hv : Vis sg a) (hd : (a == ("__debug__" : Str)) = false := by decide) (hcd : (a == ("__classdict__" : Str)) = false := by decide) :
    PE ((cxOf CXg P w K mg base Ng qg sg g cdg A outer s H Eg).tr pn xe) (.Call (.Name a p1) [] [] p2)
      (fun σZ HZ Q => σZ[i]? = some (some (.ref f)) ∧ HZ c' = some (CodeO c' q) ∧ ∃ (E1 : XK) (Q1 : VK), tl E1 HZ Q1 ∧ (∀ v H', Q1 v H' → Q v H') ∧ ∀ cls d H', E1 cls d H' → W cls d σZ H') := by
  refine ⟨fun pinsZ sZ σZ HZ Q IZ h => ?_⟩
  obtain ⟨hs, hc, E1, Q1, ht, hQ, hE⟩ := h
  refine wpAny_Call_Name_kw (thn ((pe_var (pos := p1) (i := i) hN hv hd hcd).run pinsZ sZ σZ HZ (fun v H1 => v = .ref f ∧ H1 = HZ) IZ ⟨.ref f, hs, rfl, rfl⟩) fun u s1 ⟨v, H1, I1, r1, q1⟩ => ?_)
  obtain ⟨ev, eH⟩ := q1
  subst ev
  rw [eH] at I1
  obtain rfl : u = Value.ref f := r1
  have un : Un (frs outer) [] H HZ s.heap s1.heap := I1.base
  obtain ⟨fa, rc⟩ := C _ _ s1 HZ Q1 E1 hr I1.env0 un hc ht
  refine PySem.W.callWith_F0 fa ?_
  refine wpAny_call (codeAny_mono rc fun r s' hq => ?_)
  cases r with
  | error e => exact tk e s' (XE.of_call I1 (fun cls d H' z => hE cls d H' z) hq)
  | ok fl =>
    cases fl with
    | ret u =>
      obtain ⟨v, H', a1, a2, a3, a4, a5, q1⟩ := hq
      exact I1.after ⟨v, H', a1, a2, a3, a4, a5, hQ v H' q1⟩
    | next => exact False.elim hq
    | brk => exact False.elim hq
    | cont => exact False.elim hq
end Eyes

set_option Elab.async false
set_option linter.all false
set_option maxRecDepth 100000
set_option maxHeartbeats 4000000
/-! Defs that make lambdas: their code object is named. -/
namespace Eyes
open PySem PySem.Spec PyProof.Rows L2 LamX
def FnAtC (K : PySem.W.Frag) (mg : Str → Option Value) (x : Str) (st : Stmt) (ps : List Str) (c : Addr) : Prop :=
  ∃ (f : Addr) (oc : Value) (od : Option Addr) (kV doc pm : Value) (an : Option Addr) (ct : Value) (osl : Array (Option Value)), K.lookup f = some ⟨oc, od, .func (PySem.W.fnOf x x (defArgs st) (defBody st) (defScope st) .none kV doc pm an (.ref c) ct), osl⟩ ∧ PySem.W.codeIn K (.ref c) x = true ∧ PySem.W.keepIn K (.ref f) = true ∧
    Binds K (PySem.W.fnOf x x (defArgs st) (defBody st) (defScope st) .none kV doc pm an (.ref c) ct) ps [] ∧ mg x = some (.ref f)
section
variable {P : Program} {w : World} {K : PySem.W.Frag} {mg : Str → Option Value} {base : Heap}
theorem fnAtC_mk {h : Heap} (X : K.In h) (G : h.Ns mainGlobals mg) {x : Str} {st : Stmt} {ps : List Str} {f c : Addr} {oc : Value} {od an : Option Addr} {osl : Array (Option Value)} {kV doc pm ct : Value} (a : PySem.W.nsIn K mainGlobals x = some (some (.ref f)))
    (l : K.lookup f = some ⟨oc, od, .func (PySem.W.fnOf x x (defArgs st) (defBody st) (defScope st) .none kV doc pm an (.ref c) ct), osl⟩) (cd : PySem.W.codeIn K (.ref c) x = true) (k : PySem.W.keepIn K (.ref f) = true) (hb : BindH x x st ps) : FnAtC K mg x st ps c :=
  ⟨f, oc, od, kV, doc, pm, an, ct, osl, l, cd, k, (fun_mk l cd k).binds hb, PySem.W.mg_of X G a⟩
theorem pr_mkC {x : Str} {st : Stmt} {N ps : List Str} {k : Nat} {c : Addr} {sp : Sp} (A : FnAtC K mg x st ps c) (S : FnScope N ps (defScope st)) (len : ∀ vs H Q E, sp vs H Q E → vs.length = ps.length)
    (hbody : ∀ (f : Addr) (A : Around) (outer : List Env) (s : Shared) (H : Hp) (vs : List V) (Q : VK) (E : XK), Room k (A.deeper (envOfC x (defScope st) s.heap.objs.size f (.ref c))) → sp vs H Q E →
      ∃ t, PSs (cxOf CX0 P w K mg base N x (defScope st) f (.ref c) A outer s H E).nox (defBody st) t ∧ t { nx := fun _ H' => Q .non H', rt := Q } (start N vs) H) : Pr P w K mg base x st ps (k + 1) sp := by
  obtain ⟨f, oc, od, kV, doc, pm, an, ct, osl, lk, hcd, kp, hb, hm⟩ := A
  refine ⟨f, _, hm, fun_mk lk hcd kp, hb, fn_of lk hcd S len fun A outer s H vs Q E hr hsp => ?_⟩
  obtain ⟨t, h, q⟩ := hbody f A outer s H vs Q E hr hsp
  exact ⟨t, h.nox, q⟩
theorem codeHd_mk {h : Heap} {c T : Addr} {o : Obj} {vs : Array Value} {file : Str} {tf tg tt : Tok} {flags text : Int} {inF : Bool} (X : K.In h) (l : K.lookup c = some o) (h1 : o.cls = .type "code") (h2 : o.data = .fields vs) (h3 : vs[11]? = some (.ref T)) (h4 : vs.getD 11 .none = .ref T) (h5 : vs.getD 18 .none = .str file tf)
    (h6 : vs.getD 7 .none = .int flags tg) (h7 : vs.getD 9 .none = .bool inF) (h8 : vs.getD 10 .none = .int text tt) (n : c ≠ T) : PySem.W.CodeHd h c T :=
  ⟨o, vs, file, tf, flags, tg, inF, text, tt, X _ _ l, h1, h2, h3, h4, h5, h6, h7, h8, n⟩
end
theorem tabs_new {T : List (Addr × Str)} {H : Hp} (h : ∀ p ∈ T, H p.1 = some (.tbl #[])) : Tabs T H := fun p hp => by
  refine ⟨#[], h p hp, ?_, fun pos cv z => ?_⟩
  · trivial
  · cases z
end Eyes

set_option Elab.async false
set_option linter.all false
set_option maxRecDepth 100000
set_option maxHeartbeats 4000000
/-! Defs of a star parameter alone, which may raise. -/
namespace Eyes
open PySem PySem.Spec PyProof.Rows L2
def FnAtR (K : PySem.W.Frag) (mg : Str → Option Value) (x : Str) (st : Stmt) : Prop := ∃ (f : Addr) (fd : FuncData), Fun K x x st f fd ∧ mg x = some (.ref f)
def PrR (P : Program) (w : World) (K : PySem.W.Frag) (mg : Str → Option Value) (base : Heap) (x : Str) (k : Nat) (sp : Sp) : Prop :=
  ∃ f : Addr, mg x = some (.ref f) ∧ PySem.W.keepIn K (.ref f) = true ∧ FnR P w K mg base (L2.CX P w) k f sp
def spStar (sp : Sp) : Sp := fun vs H Q E => vs.length ≤ sizeLine ∧ ∀ p, H p = none → sp [.ref p] (upd H p (.tup vs)) Q E
abbrev BindStar (x : Str) (st : Stmt) (a : Str) : Prop := ∀ (kV doc pm : Value) (an : Option Addr) (cdv ct : Value) (rest : List Value), bindArgs (PySem.W.fnOf x x (defArgs st) (defBody st) (defScope st) .none kV doc pm an cdv ct) ⟨rest, []⟩ = (newTuple rest >>= fun t => pure [(a, t)])
section
variable {P : Program} {w : World} {K : PySem.W.Frag} {mg : Str → Option Value} {base : Heap}
theorem fnAtR_mk {h : Heap} (X : K.In h) (G : h.Ns mainGlobals mg) {x : Str} {st : Stmt} {f : Addr} {oc : Value} {od an : Option Addr} {osl : Array (Option Value)} {kV doc pm cdv ct : Value} (a : PySem.W.nsIn K mainGlobals x = some (some (.ref f)))
    (l : K.lookup f = some ⟨oc, od, .func (PySem.W.fnOf x x (defArgs st) (defBody st) (defScope st) .none kV doc pm an cdv ct), osl⟩) (c : PySem.W.codeIn K cdv x = true) (k : PySem.W.keepIn K (.ref f) = true) : FnAtR K mg x st :=
  ⟨f, _, fun_mk l c k, PySem.W.mg_of X G a⟩
theorem prR_mk {x a : Str} {st : Stmt} {N : List Str} {k : Nat} {sp : Sp} (A : FnAtR K mg x st) (hb : BindStar x st a) (S : FnScope N [a] (defScope st))
    (hbody : ∀ (f : Addr) (cdv : Value) (A : Around) (outer : List Env) (s : Shared) (H : Hp) (vs : List V) (Q : VK) (E : XK), Room k (A.deeper (envOfC x (defScope st) s.heap.objs.size f cdv)) → sp vs H Q E →
      Takes (cxOf (L2.CX P w) P w K mg base N x (defScope st) f cdv A outer s H E) (fun cls d _ G => E cls d G) →
      ∃ t, PSs (cxOf (L2.CX P w) P w K mg base N x (defScope st) f cdv A outer s H E) (defBody st) t ∧ t { nx := fun _ H' => Q .non H', rt := Q } (start N vs) H) : PrR P w K mg base x (k + 1) (spStar sp) := by
  obtain ⟨f, fd, F, hm⟩ := A
  refine ⟨f, hm, F.kp, ?_⟩
  obtain ⟨oc, od, kV, doc, pm, an, cdv, ct, osl, rfl, lk, hcd⟩ := F.ex
  have z := StX.fn_star (CX := L2.CX P w) (P := P) (w := w) (mg := mg) (base := base) (k := k) (sp := sp) (N := N) (ps := []) (pv := a) lk hcd S StX.cxUp (fun us rest hu => by
    rw [List.length_eq_zero_iff.mp hu]
    exact hb kV doc pm an cdv ct rest) (fun A outer s H vs Q E hr h => hbody f cdv A outer s H vs Q E hr h (takes_of rfl rfl rfl rfl))
  exact z.imp fun vs H Q E h => ⟨[], vs, rfl, rfl, h.1, h.2⟩
end
section
variable {X : Cx} {x : Str} {sp : Sp} {E : XK} {e : Expr} {es : List Expr} {p pos : Pos} {t : TA} {j k : Nat}
theorem pcallR (G : PrR X.prog X.w X.K X.mg X.base x j sp) (hr : Room k X.A) (hx : Passes (L2.CX X.prog X.w) X E) (ha : PA X (e :: es) t) (hj : j ≤ k := by first | decide | omega) (hg : Gl X x := by rfl)
    (hdb : (x == ("__debug__" : Str)) = false := by decide) (he : starEach (e :: es) X.env = (false, eval e X.env) :: starEach es X.env := by rfl) (hpl : (backTo pos (starEach es X.env)).any (·.1) = false := by rfl) :
    PE X (.Call (.Name x p) (e :: es) [] pos) (fun σ H Q => t σ H fun vs H1 => sp vs H1 Q E) := by
  obtain ⟨f, hm, hk, F⟩ := G
  refine ⟨fun pins s σ H Q I h => wpAny_Call_Name_kw (ld_glob I hg hm ?_ hdb)⟩
  refine PySem.W.callWith_K (h₀ := X.base) I.ok.mod.kin hk (thn (ha.run pos pins s σ H _ I h) fun us s1 ⟨vs, H1, I1, r, q⟩ => ⟨I1.kIn, ?_⟩) he hpl
  exact wpAny_call (run_fnR F (hr.mono hj) hx I1 r q)
theorem pcallR0 (G : PrR X.prog X.w X.K X.mg X.base x j sp) (hr : Room k X.A) (hx : Passes (L2.CX X.prog X.w) X E) (hj : j ≤ k := by first | decide | omega) (hg : Gl X x := by rfl)
    (hdb : (x == ("__debug__" : Str)) = false := by decide) : PE X (.Call (.Name x p) [] [] pos) (fun σ H Q => sp [] H Q E) := by
  obtain ⟨f, hm, hk, F⟩ := G
  refine ⟨fun pins s σ H Q I h => wpAny_Call_Name_kw (ld_glob I hg hm ?_ hdb)⟩
  refine PySem.W.callWith_K0 I.kIn hk ?_
  exact wpAny_call (run_fnR (us := []) (vs := []) F (hr.mono hj) hx I .nil h)
end
end Eyes

set_option Elab.async false
set_option linter.all false
set_option maxRecDepth 100000
set_option maxHeartbeats 4000000
/-! enumerate(tuple) in a for. -/
namespace Eyes
open PySem PySem.Spec PyProof.Rows L2
theorem meets_enum1 {v : Value} {o : Obj} {HB : Heap → Prop} (B : Begins v o HB) :
    Meets (Builtin.«enumerate.__new__» ⟨[.type "enumerate", v], []⟩) (fun _ R s => HB s.heap ∧
      R (.ok (.ret (.ref (s.heap.push o).objs.size))) { s with heap := (s.heap.push o).push { cls := .type "enumerate", data := .fields #[.none, .bool false, .ref s.heap.objs.size, rawInt 0, .none, .none] } }) :=
  .of_wp fun prog w A R s h => by
    obtain ⟨hp, g, d, tk, os⟩ := s
    obtain ⟨h1, h⟩ := h
    have sub1 := sub_enumerate
    have it1 : ∀ {A' : Around} {E : Value → Shared → Prop} {Q : Value → Shared → Prop}, Q (.ref hp.objs.size) ⟨hp.push o, g, d, tk, os⟩ → wpAny (model prog w) A' (pyIter v) Q E ⟨hp, g, d, tk, os⟩ := fun q => B.iter prog w _ _ ⟨hp, g, d, tk, os⟩ _ h1 q
    wp_walk using it1
    refine wpAny_stack_any fun st => wpAny_pure ?_
    split
    · rename_i c _ _ _ _ _
      cases (c == Value.type "enumerate")
      · wp_walk using it1
        exact ⟨_, rfl, h⟩
      · wp_walk using it1
        exact ⟨_, rfl, h⟩
    · wp_walk using it1
      exact ⟨_, rfl, h⟩
section
variable {prog : Program} {w : World} {A : Around} {E : Value → Shared → Prop} {s : Shared}
theorem enum1_begins {v : Value} {o : Obj} {HB : Heap → Prop} {Q : Value → Shared → Prop} (B : Begins v o HB) (h1 : HB s.heap)
    (q : ∀ h', IsEnum h' (s.heap.objs.size + 1) s.heap.objs.size 0 .none → h'.get? s.heap.objs.size = some o → h'.objs.size = s.heap.objs.size + 2 → (∀ b u, s.heap.get? b = some u → h'.get? b = some u) → Q (.ref (s.heap.objs.size + 1)) { s with heap := h' }) :
    wpAny (model prog w) A (call (.type "enumerate") [v]) Q E s := by
  refine callType_new PySem.F.called_enumerate (by decide) (PySem.F.typeCall_enumerate_1 _) (PySem.F.newCall_enumerate_1 _) (fun ob => PySem.F.args_object_init_2 ob _) PySem.F.entry_enumerate_new (meets_enum1 B) ⟨h1, ?_⟩
  have z1 : (s.heap.push o).objs.size = s.heap.objs.size + 1 := Heap.size_push ..
  show _ ∧ _
  rw [z1]
  have en : IsEnum ((s.heap.push o).push { cls := .type "enumerate", data := .fields #[.none, .bool false, .ref s.heap.objs.size, rawInt 0, .none, .none] }) (s.heap.objs.size + 1) s.heap.objs.size 0 .none := by
    have y := Heap.get?_push_size (s.heap.push o) (o := { cls := .type "enumerate", data := .fields #[.none, .bool false, .ref s.heap.objs.size, rawInt 0, .none, .none] }) rfl
    rw [z1] at y
    exact y
  exact ⟨⟨_, en, rfl⟩, q _ en (Heap.get?_push_of_some _ (Heap.get?_push_size _ B.free)) (by rw [Heap.size_push, z1]) fun b u x => Heap.get?_push_of_some _ (Heap.get?_push_of_some _ x)⟩
end
def IteT (K : PySem.W.Frag) (a : Addr) (k : Int) : It :=
  ⟨fun i H => ∃ (xs : List V) (x : V), SqT K H a xs ∧ xs[i]? = some x, fun i H v H' => ∃ T x, v = .ref T ∧ H T = none ∧ H' = upd H T (.tup [.int (k + (i : Nat)), x]) ∧ ∀ xs, SqT K H a xs → xs[i]? = some x, fun i H => ∃ xs : List V, SqT K H a xs ∧ xs.length ≤ i⟩
theorem turn_enumT {P : Program} {w : World} {K : PySem.W.Frag} {elts : List Expr} {kk : Nat} {tpos : Pos} (a e it : Addr) (k : Int) (nai : a ≠ it) :
    Turn P w K (.Tuple elts kk tpos) (IteT K a k) [e, it] e (fun i h => (∃ old, IsEnum h e it (k + (i : Nat)) old) ∧ h.IsTupleIter it a i ∧ e ≠ it ∧ a ≠ e) where
  mem := by simp
  obj := fun i h st b hb => by
    obtain ⟨⟨old, he⟩, ⟨o, ho, hc, hd⟩, _⟩ := st
    rcases (show b = e ∨ b = it by simpa using hb) with z | z
    · rw [z]
      exact ⟨_, he, fun v q => nomatch q⟩
    · rw [z]
      exact ⟨o, ho, fun v q => by rw [hd] at q; cases q⟩
  keep := fun i h h' st kp => by
    obtain ⟨⟨old, he⟩, hi, hne, hna⟩ := st
    exact ⟨⟨old, kp e (by simp) _ he⟩, hi.at fun o q => kp it (by simp) o q, hne, hna⟩
  item := by
    intro X hP hw hK hc i pins s σ H E I hf st hg
    subst hP hw hK
    obtain ⟨⟨old, he⟩, hit, hne, hna⟩ := st
    obtain ⟨xs, x, hq, hx⟩ := hg
    obtain ⟨its, rv, p, hz⟩ := I.tuple hq
    obtain ⟨u, hu, ru⟩ := rv.get hx
    have el : e < s.heap.objs.size := Heap.lt_size he
    have il : it < s.heap.objs.size := by
      obtain ⟨_, q, _⟩ := hit
      exact Heap.lt_size q
    have isT : s.heap.IsTuple a its.toArray := by
      obtain ⟨o, e1, e2, n, e3⟩ := p
      exact ⟨o, e1, e2, n, e3⟩
    have lti : i < its.length := by
      rcases Nat.lt_or_ge i its.length with z | z
      · exact z
      · rw [List.getElem?_eq_none z] at hu
        cases hu
    have D := Draws.tuple (prog := X.prog) (w := X.w) (A := X.A.in1) (by have := I.ok.hd hc; simpa using this) it a nai its.toArray
    refine wpAny_pyNext_enum_itemC D he ⟨hit, isT⟩ (by simpa using lti) hne (by simp [hne, Ne.symm hna]) fun y h' tk hy ho hst hT hsz hk => ?_
    have ey : y = u := by
      have z : its.toArray[i]? = some y := hy
      rw [List.getElem?_toArray, hu] at z
      exact (Option.some.inj z).symm
    subst ey
    refine ⟨_, rfl, wpAny_letOwnedTupleGo_enum (s := { s with heap := h', toks := tk + 1 }) ho fun h2 he2 sb => ?_⟩
    have T2 : h2.get? s.heap.objs.size = some { cls := .type "tuple", data := .seq #[.int (k + (i : Nat)) tk, y] } := (sb.2 _ (Nat.ne_of_gt el)).trans hT
    have new : ObjOk X.prog X.w (upd H s.heap.objs.size (.tup [.int (k + (i : Nat)), x])) h2 s.heap.objs.size (.tup [.int (k + (i : Nat)), x]) :=
      ⟨by show 2 ≤ sizeLine; decide, [.int (k + (i : Nat)) tk, y], .cons ⟨_, rfl⟩ (.cons ru .nil), ⟨_, T2, rfl, _, rfl⟩⟩
    have I1 : Inv X pins σ (upd H s.heap.objs.size (.tup [.int (k + (i : Nat)), x])) { s with heap := h2, toks := tk + 1 } :=
      I.turnedNew (ch := [e, it]) (fun b ob hb q => (sb.2 b (fun z => hb (by simp [z]))).trans (hk b ob (fun z => hb (by simp [z])) (fun z => hb (by simp [z])) q)) hf (Nat.le_refl _) new
    refine ⟨.ref s.heap.objs.size, _, I1, rfl, ⟨_, x, rfl, I.hok.fresh (Nat.le_refl _), rfl, fun ys hy => by rw [I.tuple_inj hy hq]; exact hx⟩, ⟨⟨y, ?_⟩, hst.1.at fun o q => (sb.2 it (Ne.symm hne)).trans q, hne, hna⟩, fun b hb => ?_⟩
    · rw [show (k + ((i + 1 : Nat) : Int)) = k + (i : Nat) + 1 by omega]
      exact he2
    · have lt : b < s.heap.objs.size := by
        rcases (show b = e ∨ b = it by simpa using hb) with z | z
        · rw [z]; exact el
        · rw [z]; exact il
      rw [upd_ne (Nat.ne_of_lt lt)]
      exact (hf b hb).1
  done := by
    intro X hP hw hK hc i pins s σ H E I hf st hg
    subst hP hw hK
    obtain ⟨⟨old, he⟩, hit, hne, hna⟩ := st
    obtain ⟨xs, hq, hx⟩ := hg
    obtain ⟨its, rv, p, hz⟩ := I.tuple hq
    have isT : s.heap.IsTuple a its.toArray := by
      obtain ⟨o, e1, e2, n, e3⟩ := p
      exact ⟨o, e1, e2, n, e3⟩
    obtain ⟨f0, f1, f2, f3, f4, f5⟩ := hf it (by simp)
    have hl := rv.length
    have hh : X.A.in1.in1.handled = none := by have := I.ok.hd hc; simpa using this
    -- what is behind the end: a draw of a tuple as long as the count
    have stop : ∀ (Q : Value → Shared → Prop) (E : Value → Shared → Prop), (∀ h' e, Heap.ExtBut it s.heap h' → (∃ o, h'.get? e = some o ∧ o.cls = .type "StopIteration") → E (.ref e) { s with heap := h' }) → wpAny (model X.prog X.w) X.A.in1 (Builtin.SmallTypes.nextOf (.ref it)) Q E s :=
      fun Q E hE => wpAny_nextOf_tuple_end (by have := I.ok.hd hc; simpa using this) hit isT (by simp; omega) hE
    have hT : s.TypeIs (.ref e) "enumerate" := ⟨_, he, rfl⟩
    unfold pyNext
    refine wpAny_bind (wpAny_attempt (wpAny_callSpecial?_slot (name := Str.ofString "__next__") hT PySem.F.slot_enumerate_next (wpAny_call_entry PySem.F.slot_enumerate_next hT PySem.F.entry_enumerate_next ?_ (PySem.F.args_enumerate_next_1 _))))
    show wpAny _ _ (field (.ref e) 2 >>= _) _ _ _
    refine wpAny_bind (wpAny_field he rfl (x := .ref it) rfl (wpAny_bind (stop _ _ fun h' x eb hx' => ?_)))
    obtain ⟨o, ho, hc'⟩ := hx'
    refine wpAny_bind (wpAny_isInstance (T := "StopIteration") (b := true) ⟨o, ho, hc'⟩ isSubtype_stop (wpAny_pure ?_))
    exact ⟨rfl, I.turned (t' := s.toks) (fun b o hb q => eb b o hb q) f0 f1 f3 f4 f5⟩
  self := fun A i s Q E st h => by
    obtain ⟨⟨_, he⟩, _⟩ := st
    exact wpAny_pyIter_enum he h
def iEnumT (K : PySem.W.Frag) (ta : TA) : TI := fun σ H R => ta σ H fun vs H1 => ∃ a xs, vs = [.ref a] ∧ SqT K H1 a xs ∧ R (IteT K a 0) H1
theorem pi_enumT {X : Cx} {e : Expr} {ta : TA} {p pos tpos : Pos} {elts : List Expr} {kk : Nat} (hg : Gl X "enumerate") (hm : X.mg "enumerate" = none) (ha : PA X [e] ta) (hs : starEach [e] X.env = [(false, eval e X.env)] := by rfl) :
    PI X (.Tuple elts kk tpos) (.Call (.Name "enumerate" p) [e] [] pos) (iEnumT X.K ta) := by
  refine ⟨fun pins s σ H R I h => ?_⟩
  refine Call_ (ld_blt I hg hm boot_enumerate (PyProof.Rows.callWith_type1 (thn (ha.run pos pins s σ H _ I h) fun us s1 ⟨vs, H1, I1, r1, a, xs, ex, hq, q⟩ => ?_) hs rfl))
  subst ex
  obtain rfl := Vals.ref1 r1
  obtain ⟨its, rv, tp, hz⟩ := I1.tuple hq
  have isT : s1.heap.IsTuple a its.toArray := by
    obtain ⟨o, e1, e2, n, e3⟩ := tp
    exact ⟨o, e1, e2, n, e3⟩
  have al : a < s1.heap.objs.size := by
    obtain ⟨o, e1, _⟩ := isT
    exact Heap.lt_size e1
  refine enum1_begins (begins_tuple a its.toArray) isT fun h' he hit hsz hk => wpAny_pyIter_enum he ?_
  have I2 : Inv X pins σ H1 { s1 with heap := h' } := I1.kept (t' := s1.toks) hk
  refine ⟨s1.heap.objs.size + 1, [s1.heap.objs.size + 1, s1.heap.objs.size], _, _, H1, rfl, I2, turn_enumT a (s1.heap.objs.size + 1) s1.heap.objs.size 0 (Nat.ne_of_lt al), ⟨⟨.none, by simpa using he⟩, ⟨_, hit, rfl, rfl⟩, Nat.succ_ne_self _, Nat.ne_of_lt (Nat.lt_succ_of_lt al)⟩, fun b hb => ?_, q⟩
  have hle : s1.heap.objs.size ≤ b := by
    rcases (show b = s1.heap.objs.size + 1 ∨ b = s1.heap.objs.size by simpa using hb) with z | z
    · rw [z]; exact Nat.le_add_right _ _
    · rw [z]; exact Nat.le_refl _
  exact I1.fpOk hle (I1.hok.fresh hle)
theorem walk_enumT {K : PySem.W.Frag} {a : Addr} {k : Int} {xs : List V} : Walk (IteT K a k) xs.length (fun H => SqT K H a xs) (YPair (fun i => some (.int (k + (i : Nat)))) (fun i => xs[i]?)) := by
  refine ⟨fun i H hi q => ⟨xs, xs[i], q, by simp [hi]⟩, fun H q => ⟨xs, q, Nat.le_refl _⟩, fun i H v H' hi q y => ?_⟩
  obtain ⟨T, x, h1, h2, h3, h4⟩ := y
  exact ⟨T, _, x, h1, h2, h3, rfl, h4 xs q⟩
end Eyes

set_option Elab.async false
set_option linter.all false
set_option maxRecDepth 100000
set_option maxHeartbeats 4000000
/-! sorted(set(texts)). -/
namespace Eyes
open PySem PySem.Spec PyProof.Rows L2
def txtE (e : Int × Value) : Str := match e.2 with | .str z _ => z | _ => Str.empty
def IsTxt (w : World) (e : Int × Value) : Prop := ∃ z tk, e.2 = Value.str z tk ∧ e.1 = hashStr w z
def TxtSet (w : World) (h : Heap) (a : Addr) (L : List Str) : Prop :=
  ∃ ob ee pp tt, h.get? a = some ob ∧ ob.ExactSet ∧ ob.data = .set ee pp tt ∧ (∀ e ∈ ee.toList, IsTxt w e) ∧ ee.toList.map txtE = L ∧ L.Nodup ∧ ee.size < scanBound ∧ tt.fits ee.size = true ∧ Ris tt.place.toList ∧ (w.params.followText "set-order" = true ∨ tt.led = true)
section
variable {P : Program} {w : World}
theorem txt_is (z : Str) (tk : Tok) : (strKind P w).is z (.str z tk) = true := by
  show Value.isStrOf z (.str z tk) = true
  simp [Value.isStrOf]
theorem txt_elems {l : List (Int × Value)} (g : ∀ e ∈ l, IsTxt w e) : ElemsOf (strKind P w) l := fun e he => by
  obtain ⟨z, tk, e1, e2⟩ := g e he
  exact ⟨⟨z, by rw [e1]; exact txt_is z tk, e2⟩, by rw [e1] <;> rfl⟩
theorem txt_key {e : Int × Value} (g : IsTxt w e) (y : Str) : (strKind P w).is y e.2 = true ↔ txtE e = y := by
  obtain ⟨z, tk, e1, _⟩ := g
  unfold txtE
  rw [e1]
  show Value.isStrOf y (.str z tk) = true ↔ z = y
  constructor
  · intro h
    exact (Value.isStrOf_inj (.str z tk) z y (by simp [Value.isStrOf]) h)
  · intro h
    subst h
    simp [Value.isStrOf]
theorem txt_mem {l : List (Int × Value)} (g : ∀ e ∈ l, IsTxt w e) (y : Str) : y ∈ l.map txtE ↔ ∃ e ∈ l, (strKind P w).is y e.2 = true := by
  rw [List.mem_map]
  exact ⟨fun ⟨e, he, q⟩ => ⟨e, he, (txt_key (g e he) y).2 q⟩, fun ⟨e, he, q⟩ => ⟨e, he, (txt_key (g e he) y).1 q⟩⟩
end
section
variable {P : Program} {w : World} {A : Around} {E : Value → Shared → Prop} {s : Shared} {a : Addr}
theorem txt_store {g : Bool → Sem Unit} (hg : ∀ (b : Bool) (s₁ : Shared) (Q' : Unit → Shared → Prop), Q' () s₁ → wpAny (model P w) A (g b) Q' E s₁) {ob : Obj} {ee : Array (Int × Value)} {pp : Nat} {tt : SetTable} (ho : s.heap.get? a = some ob) (hx : ob.ExactSet) (hd : ob.data = .set ee pp tt)
    {e1 : Array (Int × Value)} {t1 : SetTable} (g1 : ∀ e ∈ e1.toList, IsTxt w e) (nd : (e1.toList.map txtE).Nodup) (hb : e1.size < scanBound) (hf : t1.fits e1.size = true) (hr : Ris t1.place.toList) (hl : w.params.followText "set-order" = true ∨ t1.led = true) {dummy : Bool} {R : Option Bool → Shared → Prop}
    (hR : ∀ h' L', Heap.SameBut a s.heap h' → TxtSet w h' a L' → L'.Perm (e1.toList.map txtE) → R (some true) { s with heap := h' }) :
    wpAny (model P w) A (do
        storeSet a e1 t1
        if (!dummy && t1.tooFull) = true then do
            g (relayAll t1 e1 (SetTable.grown e1.size)).2.2
            storeSet a (relayAll t1 e1 (SetTable.grown e1.size)).1 (relayAll t1 e1 (SetTable.grown e1.size)).2.1
            pure (some true)
          else pure (some true)) R E s := by
  refine wpAny_bind (wpAny_storeSet_of ho hd ?_ (fits_of_scanBound hb))
  have o1 := store_at (es' := e1) (t' := t1) ho hd
  have k1 := Heap.SameBut.update s.heap a (Obj.putSet e1 t1)
  split
  · have y1 := relayAll_perm t1 e1 (SetTable.grown e1.size)
    have y2 := relayAll_fits t1 e1 (SetTable.grown e1.size)
    have y3 := relayAll_ris t1 e1 (SetTable.grown e1.size)
    have y4 := relayAll_led t1 e1 (SetTable.grown e1.size)
    generalize relayAll t1 e1 (SetTable.grown e1.size) = Y at y1 y2 y3 y4 ⊢
    obtain ⟨e2, t2, gv⟩ := Y
    dsimp only at y1 y2 y3 y4 ⊢
    have z2 : e2.size = e1.size := by rw [← Array.length_toList, y1.length_eq, Array.length_toList]
    have b2 : e2.size < scanBound := by rw [z2]; exact hb
    refine wpAny_bind (hg _ _ _ (wpAny_bind (wpAny_storeSet_of o1 rfl ?_ (fits_of_scanBound b2))))
    have o2 := store_at (es' := e2) (t' := t2) o1 rfl
    refine wpAny_pure (hR _ (e2.toList.map txtE) (k1.trans (Heap.SameBut.update _ a _)) ⟨_, e2, _, t2, o2, hx, rfl, fun e he => g1 e (y1.mem_iff.mp he), rfl, (y1.map txtE).nodup_iff.mpr nd, b2, y2, y3, ?_⟩ (y1.map txtE))
    exact hl.imp id fun z => by rw [y4]; exact z
  · exact wpAny_pure (hR _ _ k1 ⟨_, e1, _, t1, o1, hx, rfl, g1, rfl, nd, hb, hf, hr, hl⟩ (List.Perm.refl _))
theorem txt_add {z : Str} {tk : Tok} {L : List Str} {Q : Bool → Shared → Prop} (T : TxtSet w s.heap a L) (room : L.length + 1 < scanBound)
    (hQ : ∀ b h' L', Heap.SameBut a s.heap h' → TxtSet w h' a L' → (∀ y, y ∈ L' ↔ y = z ∨ y ∈ L) → L'.length ≤ L.length + 1 → Q b { s with heap := h' }) :
    wpAny (model P w) A (setAddHashed a (.str z tk) ((strKind P w).hash z)) Q E s := by
  obtain ⟨ob, ee, pp, tt, ho, hx, hd, g, rfl, nd, hb, hf, hr, hl⟩ := T
  have key : (strKind P w).is z (.str z tk) = true := txt_is z tk
  have sc : (Value.str z tk).scannable = true := rfl
  have el : ElemsOf (strKind P w) ee.toList := txt_elems g
  have len : (ee.toList.map txtE).length = ee.size := by rw [List.length_map, Array.length_toList]
  unfold setAddHashed setAddHashedIn
  refine wpAny_holding (wpAny_bind (wpAny_setState_of ho hd hf ?_))
  dsimp only
  rw [byScan_of sc hb el]
  simp only [↓reduceIte]
  unfold setAddByScan
  refine wpAny_bind (wpAny_bind (wpAny_rule (wpAny_bind (wpAny_setScan_of key ho hd hf el ?_))))
  cases hfi : List.findIdx? (fun e => (strKind P w).is z e.2) ee.toList with
  | some j =>
    dsimp only
    obtain ⟨hj, pj, _⟩ := List.findIdx?_eq_some_iff_getElem.mp hfi
    have hz : z ∈ ee.toList.map txtE := (txt_mem (P := P) g z).2 ⟨ee.toList[j], List.getElem_mem hj, pj⟩
    exact wpAny_pure (wpAny_pure (hQ _ s.heap _ (Heap.SameBut.refl a s.heap) ⟨ob, ee, pp, tt, ho, hx, hd, g, rfl, nd, hb, hf, hr, hl⟩ (fun y => ⟨.inr, fun q => q.elim (fun e => e ▸ hz) id⟩) (Nat.le_succ _)))
  | none =>
    dsimp only
    have hz : z ∉ ee.toList.map txtE := fun q => by
      obtain ⟨e, he, q⟩ := (txt_mem (P := P) g z).1 q
      have c := List.findIdx?_eq_none_iff.mp hfi e he
      rw [q] at c
      cases c
    have way : ∀ (b : Bool) {s₁ : Shared} {Q' : Unit → Shared → Prop}, Q' () s₁ → wpAny (model P w) A (match b with | true => rule "set.scan.the-table-gave-way" | false => pure ()) Q' E s₁ := fun b s₁ Q' q => by
      cases b
      · exact wpAny_pure q
      · exact wpAny_rule q
    have y1 := layNew_perm tt ee ((strKind P w).hash z) (.str z tk)
    have y2 := layNew_fits tt ee ((strKind P w).hash z) (.str z tk)
    have y3 := layNew_ris tt ee ((strKind P w).hash z) (.str z tk) hr
    have y4 := layNew_led tt ee ((strKind P w).hash z) (.str z tk)
    generalize layNew tt ee ((strKind P w).hash z) (.str z tk) = Y at y1 y2 y3 y4 ⊢
    obtain ⟨e1, t1, dummy, gv⟩ := Y
    dsimp only at y1 y2 y3 y4 ⊢
    rw [Array.toList_push] at y1
    have pc : e1.toList.Perm (((strKind P w).hash z, Value.str z tk) :: ee.toList) := y1.trans (List.perm_append_singleton _ _)
    have pk : (e1.toList.map txtE).Perm (z :: ee.toList.map txtE) := pc.map txtE
    have g1 : ∀ e ∈ e1.toList, IsTxt w e := fun e he => by
      rcases List.mem_cons.mp (pc.mem_iff.mp he) with q | q
      · rw [q]
        exact ⟨z, tk, rfl, rfl⟩
      · exact g e q
    have nd1 : (e1.toList.map txtE).Nodup := pk.nodup_iff.mpr (List.nodup_cons.mpr ⟨hz, nd⟩)
    have sz : e1.size = ee.size + 1 := by rw [← Array.length_toList, pc.length_eq, List.length_cons, Array.length_toList]
    have hb1 : e1.size < scanBound := by rw [sz, ← len]; exact room
    have led : w.params.followText "set-order" = true ∨ t1.led = true := hl.imp id fun q => by rw [y4]; exact q
    have fin : ∀ h' L', Heap.SameBut a s.heap h' → TxtSet w h' a L' → L'.Perm (e1.toList.map txtE) → ∀ b, Q b { s with heap := h' } := fun h' L' k T' p b =>
      hQ b h' L' k T' (fun y => by rw [p.mem_iff, pk.mem_iff, List.mem_cons]) (by rw [p.length_eq, pk.length_eq, List.length_cons]; exact Nat.le_refl _)
    refine wpAny_bind (way _ ?_)
    split
    · refine wpAny_bind ?_
      rw [hashByValue_scannable 8 sc]
      refine wpAny_pure (txt_store ?_ ho hx hd g1 nd1 hb1 ?_ ?_ ?_ ?_)
      · intro b s₁ Q' q
        cases b
        · exact wpAny_pure q
        · exact wpAny_rule q
      · first | (split <;> first | exact y2 | exact SetTable.fits_plain_off y2) | exact y2
      · first | (split <;> exact y3) | exact y3
      · first | (split <;> exact led) | exact led
      · intro h' L' k T' p
        dsimp only
        exact wpAny_pure (fin h' L' k T' p _)
    · refine wpAny_bind (wpAny_pure ?_)
      simp only [↓reduceIte]
      refine txt_store ?_ ho hx hd g1 nd1 hb1 y2 y3 led ?_
      · intro b s₁ Q' q
        cases b
        · exact wpAny_pure q
        · exact wpAny_rule q
      · intro h' L' k T' p
        dsimp only
        exact wpAny_pure (fin h' L' k T' p _)
theorem TxtSet.at {h h' : Heap} {L : List Str} (T : TxtSet w h a L) (k : ∀ o, h.get? a = some o → h'.get? a = some o) : TxtSet w h' a L := by
  obtain ⟨o, e, p, t, ho, r⟩ := T
  exact ⟨o, e, p, t, k o ho, r⟩
abbrev noSet (w : World) : Obj := { cls := .type "set", dict := none, data := .set #[] 0 (.fresh 0 0 (!w.params.followText "set-order")) }
theorem txt_fresh {h : Heap} : TxtSet w (h.push (noSet w)) h.objs.size [] :=
  ⟨_, #[], 0, _, Heap.get?_push_size _ rfl, ⟨rfl, rfl, rfl⟩, rfl, (fun e he => by simp at he), rfl, .nil, (by decide), (by rfl), List.Pairwise.nil, by
    show _ ∨ (!w.params.followText "set-order") = true
    cases w.params.followText "set-order"
    · exact .inr rfl
    · exact .inl rfl⟩
end
/-! ### set(texts) -/
section
variable {P : Program} {w : World} {A : Around} {R : Result → Shared → Prop} {I : Addr} {fp wr : List Addr} {G : Array GenState → Array GenState → Prop} {n : Nat} {Pv : Nat → Value → Prop} {St : Nat → Shared → Prop}
theorem txt_loop (W : WalksS P w A.in1 I fp wr G n Pv St) (S : Addr) (hS : S ∉ fp) (xs : List Str) (hv : ∀ i v, Pv i v → ∃ z t, xs[i]? = some z ∧ v = .str z t) (hn : n = xs.length) (hb : n + 1 < scanBound) :
    ∀ (k i : Nat) (s : Shared), n - i = k → i ≤ n → St i s → (∃ L, TxtSet w s.heap S L ∧ (∀ y, y ∈ L ↔ y ∈ xs.take i) ∧ L.length ≤ i) →
      (∀ s' L, Moved (S :: wr) G s s' → TxtSet w s'.heap S L → (∀ y, y ∈ L ↔ y ∈ xs) → L.length ≤ n → R (.ok (.ret .none)) s') →
      codeAny (model P w) A (.builtin "set.update.loop" ⟨[.ref S, .ref I], []⟩) R s := by
  have hw : S ∉ wr := fun h => hS (W.sub _ h)
  have sub : ∀ b ∈ wr, b ∈ S :: wr := fun b hb => List.mem_cons_of_mem _ hb
  intro k
  induction k with
  | zero =>
    intro i s hk hi hst ⟨L, T, hL, hl⟩ hR
    obtain rfl : i = n := by omega
    refine codeAny_builtin F.entry_set_update_loop ?_
    rw [Around.under_plainId F.plain_set_update_loop _]
    show wpAny _ A.in1 (pyNext (.ref I) >>= _) _ _ s
    refine wpAny_bind (W.done s _ _ hst fun s' hm => ?_)
    show wpAny _ A.in1 (ret Value.none) _ _ s'
    exact wpAny_pure (hR s' L (hm.mono sub) (T.at fun o e => hm.heap S _ hw e) (fun y => by rw [hL y, hn, List.take_length]) hl)
  | succ k ih =>
    intro i s hk hi hst ⟨L, T, hL, hl⟩ hR
    have lt : i < n := by omega
    refine codeAny_builtin F.entry_set_update_loop ?_
    rw [Around.under_plainId F.plain_set_update_loop _]
    show wpAny _ A.in1 (pyNext (.ref I) >>= _) _ _ s
    refine wpAny_bind (W.item i s _ _ lt hst fun v s' hP hst' hm => ?_)
    obtain ⟨z, t, hz, rfl⟩ := hv i v hP
    have T' : TxtSet w s'.heap S L := T.at fun o e => hm.heap S _ hw e
    show wpAny _ A.in1 (holding [Value.str z t] (setAdd S (.str z t)) >>= _) _ _ s'
    refine wpAny_bind (wpAny_holding ?_)
    unfold setAdd
    refine wpAny_holding (wpAny_bind ((strKind P w).pyHash (k := z) (txt_is _ _) ?_))
    refine txt_add T' (by omega) fun b h' L' hsb T2 m2 l2 => ?_
    refine wpAny_pure ⟨plainId_quiet F.plain_set_update_loop _, ih (i + 1) _ (by omega) lt (W.frame _ s' _ _ hst' (by first | exact Nat.le_succ _ | exact Nat.le_refl _) fun b hb o e => ?_) ⟨L', T2, fun y => ?_, by omega⟩ fun s'' L3 hm'' T3 m3 l3 => ?_⟩
    · rw [hsb.2 b (fun h : b = S => hS (by rw [← h]; exact hb))]; exact e
    · rw [m2 y, hL y, List.take_add_one, hz, List.mem_append]
      show y = z ∨ y ∈ xs.take i ↔ y ∈ xs.take i ∨ y ∈ [z]
      rw [List.mem_singleton]
      exact Or.comm
    · refine hR s'' L3 (Moved.trans W.gtrans ((hm.mono sub).then_heap (by first | exact Nat.le_succ _ | exact Nat.le_refl _) fun b o hb e => ?_) hm'') T3 m3 l3
      rw [hsb.2 b (fun h : b = S => hb (by rw [h]; exact List.mem_cons_self))]; exact e
end
end Eyes

set_option Elab.async false
set_option linter.all false
set_option maxRecDepth 100000
set_option maxHeartbeats 8000000
namespace Eyes
open PySem PySem.Spec PyProof.Rows L2
section
variable {P : Program} {w : World} {A : Around} {E : Value → Shared → Prop} {s : Shared}
theorem new_set1 (v : Value) {Q1 : Value → Shared → Prop} (q : Q1 (.ref s.heap.objs.size) { s with heap := s.heap.push (noSet w) }) :
    codeAny (model P w) A (.call (.builtin "set.__new__") ⟨[.type "set", v], []⟩) (wants Q1 E) s := by
  refine codeAny_of_tree ?_
  show wpAny _ A.in1 (do checkBuiltinCall "set.__new__" ⟨[.type "set", v], []⟩; again (.builtin "set.__new__" ⟨[.type "set", v], []⟩)) _ _ s
  refine wpAny_bind (wpAny_of_eq (PySem.F.newCall_set_1 v) (wpAny_pure ⟨plainId_quiet PySem.F.plain_set_new _, codeAny_builtin PySem.F.entry_set_new ?_⟩))
  rw [Around.under_plainId PySem.F.plain_set_new _]
  unfold Builtin.«set.__new__» Builtin.Frozenset.newClass
  have subS := sub_set_self
  obtain ⟨hp, g, d, tk, os⟩ := s
  dsimp only
  wp_walk
  refine wpAny_askSetting (wpAny_pure ?_)
  dsimp only
  simp only [newObj]
  exact wpAny_bind (wpAny_alloc (wpAny_pure (wpAny_pure q)))
theorem call_setT {l : Addr} {items : Array Value} {xs : List Str} {Q : Value → Shared → Prop} (hh : A.handled = none) (hl : s.heap.IsList l items) (hi : StrsAre items.toList xs) (hb : items.size + 1 < scanBound)
    (q : ∀ (h' : Heap) (tk : Nat) (L : List Str), TxtSet w h' s.heap.objs.size L → (∀ y, y ∈ L ↔ y ∈ xs) → L.length ≤ items.size → (∀ b o, b < s.heap.objs.size → s.heap.get? b = some o → h'.get? b = some o) → Q (.ref s.heap.objs.size) { s with heap := h', toks := tk }) :
    wpAny (model P w) A (call (.type "set") [.ref l]) Q E s := by
  obtain ⟨c, tl, hmro⟩ := PySem.F.called_set.mro
  have m1 := PySem.F.called_set.made; have m2 := PySem.F.called_set.sub
  refine wpAny_call (codeAny_of_tree ?_)
  show wpAny _ _ (callAny (.type "set") _) _ _ _
  refine wpAny_pure ⟨Code.quiet_builtin _ (by decide +kernel), codeAny_builtin F.entry_type_call ?_⟩
  rw [Around.under_plain (weight_type_call_type "set" [.ref l] []) rfl]
  have m3 := PySem.F.called_set.notType; have m4 := PySem.F.called_set.canCreate; have m5 := PySem.F.typeCall_set_1 (.ref l)
  repeat (any_goals (first | assumption | wp_step))
  refine codeAny_mono (new_set1 (.ref l) (E := E) (Q1 := fun ob s₁ => ob = .ref s.heap.objs.size ∧ s₁ = { s with heap := s.heap.push (noSet w) }) ⟨rfl, rfl⟩) fun r s₁ hr => ?_
  cases r with
  | error e => exact hr
  | ok fl =>
    cases fl with
    | ret ob =>
      obtain ⟨rfl, rfl⟩ := hr
      have hS : (s.heap.push (noSet w)).get? s.heap.objs.size = some (noSet w) := Heap.get?_push_size _ rfl
      have hT : Shared.TypeIs { s with heap := s.heap.push (noSet w) } (.ref s.heap.objs.size) "set" := ⟨_, hS, rfl⟩
      have n1 := PySem.F.called_set.init.lookup; have n2 := PySem.F.called_set.init.bind (.ref s.heap.objs.size)
      repeat (any_goals (first | assumption | wp_step))
      refine codeAny_mono (codeAny_call_builtin (R := wants (fun r s₂ => r = .none ∧ ∃ h' tk L, s₂ = { s with heap := h', toks := tk } ∧ TxtSet w h' s.heap.objs.size L ∧ (∀ y, y ∈ L ↔ y ∈ xs) ∧ L.length ≤ items.size ∧
          (∀ b o, b < s.heap.objs.size → s.heap.get? b = some o → h'.get? b = some o)) E) PySem.F.called_set.init.plain PySem.F.entry_set_init (check_set_init_1 hT ?_)) fun r₂ s₂ hr₂ => ?_
      · obtain ⟨ol, hol, hcl, nl, hdl⟩ := hl
        obtain ⟨oc, od, odt, osl⟩ := ol
        simp only at hcl hdl
        subst hcl
        subst hdl
        have at1 : (s.heap.push (noSet w)).get? l = some { cls := .type "list", dict := od, data := .seq items nl, slots := osl } := Heap.get?_push_of_some _ hol
        have f1 := PySem.F.sub_list_set; have f2 := PySem.F.sub_list_frozenset
        have f3 : (Value.type "list" == Value.type "dict") = false := by decide
        have isL : (s.heap.push (noSet w)).IsList l items := ⟨_, at1, rfl, nl, rfl⟩
        unfold Builtin.«set.__init__» noKeywords Builtin.Frozenset.updateFrom
        generalize hPI : pyIter = PI
        wp_walk
        subst hPI
        refine wpAny_pyIter_list isL (wpAny_bind (wpAny_runValue ?_))
        have lS : l < s.heap.objs.size := Heap.lt_size hol
        have hh3 : A.in1.in1.in1.handled = none := by simp [hh]
        have neI : l ≠ (s.heap.push (noSet w)).objs.size := by
          rw [Heap.size_push]
          exact Nat.ne_of_lt (Nat.lt_succ_of_lt lS)
        have nin : s.heap.objs.size ∉ [(s.heap.push (noSet w)).objs.size, l] := by
          rw [Heap.size_push]
          simp only [List.mem_cons, List.mem_singleton, List.not_mem_nil, or_false, not_or]
          exact ⟨Nat.ne_of_lt (Nat.lt_succ_self _), Nat.ne_of_gt lS⟩
        have len : xs.length = items.size := by
          have z : xs.length = items.toList.length := by rw [← hi.strs, List.length_map]
          rw [z, Array.length_toList]
        have val : ∀ (i : Nat) (v : Value), items[i]? = some v → ∃ z t, xs[i]? = some z ∧ v = .str z t := fun i v hv => by
          obtain ⟨z, t, e⟩ := hi.all v (by rw [← Array.getElem?_toList] at hv; exact List.mem_of_getElem? hv)
          subst e
          refine ⟨z, t, ?_, rfl⟩
          rw [← hi.strs, List.getElem?_map, Array.getElem?_toList, hv]
          rfl
        refine txt_loop ((Walks.list hh3 _ l neI items).toS) s.heap.objs.size nin xs val len.symm hb (items.size - 0) 0 _ (by omega) (Nat.zero_le _)
          ⟨⟨_, Heap.get?_push_size _ rfl, rfl, rfl⟩, (isL.push _)⟩ ⟨[], txt_fresh.at fun o e => Heap.get?_push_of_some _ e, fun y => by simp, Nat.le_refl _⟩ fun s' L hm T mL lL => ?_
        obtain ⟨h', g', d', tk', os'⟩ := s'
        obtain rfl : g' = s.gens := hm.gens
        obtain rfl : d' = s.drawn := hm.drawn
        obtain rfl : os' = s.os := hm.os
        show wpAny _ _ _ _ _ _
        refine wpAny_pure ?_
        show wpAny _ _ (ret Value.none) _ _ _
        refine wpAny_pure ⟨rfl, h', tk', L, rfl, T, mL, lL, fun b o hb e => ?_⟩
        refine hm.heap b o ?_ (Heap.get?_push_of_some _ (Heap.get?_push_of_some _ e))
        rw [Heap.size_push]
        simp only [List.mem_cons, List.mem_singleton, List.not_mem_nil, or_false, not_or]
        exact ⟨Nat.ne_of_lt hb, Nat.ne_of_lt (Nat.lt_succ_of_lt hb)⟩
      · cases r₂ with
        | error e => exact hr₂
        | ok fl₂ =>
          cases fl₂ with
          | ret r =>
            obtain ⟨rfl, h', tk, L, rfl, T, mL, lL, kp⟩ := hr₂
            repeat (any_goals (first | assumption | wp_step))
            exact q _ _ L T mL lL kp
          | _ => exact hr₂.elim
    | _ => exact hr.elim
theorem sorted_setT {a : Addr} {L : List Str} {Q : Value → Shared → Prop} (T : TxtSet w s.heap a L) (hh : A.handled = none) (h64 : L.length < 64)
    (q : ∀ s' p (out : Array Value) (c : Nat) (ys : List Str), (∀ b o, s.heap.get? b = some o → s'.heap.get? b = some o) → s'.gens = s.gens → s'.os = s.os → s.heap.objs.size ≤ p → s'.heap.get? p = some (seqObj "list" out c) → StrsAre out.toList ys → ys.Perm L → sortedS ys = true → L.Nodup → Q (.ref p) s') :
    wpAny (model P w) A (call (.builtin "sorted") [.ref a]) Q E s := by
  obtain ⟨ob, ee, pp, tt, ho, hx, hd, g, rfl, nd, hb, hf, hr, hl⟩ := T
  refine Calls.call_function_entry kind_sorted plain_sorted entry_sorted (args_sorted1 _) ?_
  unfold Builtin.«sorted»
  refine wpAny_bind (m := checkCount "sorted" 1 1 _) (wpAny_pure (wpAny_bind (collect_set (A := A.in1) hh ⟨ob, ho, hx.1, hd⟩ hf hb hr hl fun s1 vs k1 hz g1 o1 pm => ?_)))
  have all : ∀ v ∈ vs, ∃ x t, v = Value.str x t := fun v hv => by
    obtain ⟨e, he, e1⟩ := List.mem_map.mp (pm.mem_iff.mp hv)
    obtain ⟨z, tk, e2, _⟩ := g e he
    exact ⟨z, tk, by rw [← e1, e2]⟩
  have sr := strsAre_map vs all
  have pz : (vs.map strOf).Perm (ee.toList.map txtE) := by
    have y := pm.map strOf
    rw [List.map_map] at y
    refine y.trans (List.Perm.of_eq (List.map_congr_left fun e he => ?_))
    obtain ⟨z, tk, e2, _⟩ := g e he
    show strOf e.2 = txtE e
    unfold txtE
    rw [e2]
    rfl
  have vl : vs.length < 64 := by
    rw [← List.length_map (f := strOf), pz.length_eq]
    exact h64
  refine wpAny_bind (wpAny_newList ?_ (by rw [sizeLine_eq]; omega))
  have oL : (s1.heap.push (seqObj "list" vs.toArray 0)).get? s1.heap.objs.size = some (seqObj "list" vs.toArray 0) := Heap.get?_push_size _ rfl
  refine wpAny_bind (wpAny_holding (wpAny_call_entry slot_list_sort ⟨_, oL, rfl⟩ entry_list_sort
    (list_sort_treeK strKind_oneLt oL sr.keysOf (fun v₁ v₂ rest e => keyKind_strs (by rw [← e]; exact sr)) vl fun st' hp hs => ?_) (args_list_sort _)))
  obtain ⟨ys, a1, a2, a3⟩ := sorted_out_str sr hp hs
  obtain ⟨c, hc⟩ := sortedHeap_at (vs := vs) (out := (arrOf st').map (·.2)) oL
  refine ⟨_, rfl, wpAny_pure ⟨_, rfl, q _ s1.heap.objs.size _ c ys (fun b u e => ?_) g1 o1 hz hc a1 (a2.trans pz) a3 nd⟩⟩
  have y := k1 b u e
  have lt := Heap.lt_size y
  show (sortedHeap (s1.heap.push (seqObj "list" vs.toArray 0)) s1.heap.objs.size vs _).get? b = some u
  rw [sortedHeap_old (Nat.ne_of_lt lt) (by rw [Heap.size_push]; exact Nat.lt_succ_of_lt lt)]
  exact Heap.get?_push_of_some _ y
end
def tSortedSet (K : PySem.W.Frag) (te : TE) : TE := fun σ H Q => te σ H fun x H1 => ∃ (a : Addr) (xs : List Str), x = .ref a ∧ SqL K H1 a (xs.map V.str) ∧ xs.length < 64 ∧
  ∀ (ys : List Str) (p : Addr), sortedS ys = true → ys.Nodup → (∀ y, y ∈ ys ↔ y ∈ xs) → H1 p = none → Q (.ref p) (upd H1 p (.lst (ys.map V.str)))
section
variable {X : Cx} {K : PySem.W.Frag} {e : Expr} {te : TE} {p1 p2 q1 q2 : Pos}
theorem pe_sortedSet (hK : X.K = K) (hc : X.calm = true) (he : PE X e te) (hg1 : Gl X "sorted") (hm1 : X.mg "sorted" = none) (hg2 : Gl X "set") (hm2 : X.mg "set" = none)
    (hs : starEach [.Call (.Name "set" p2) [e] [] q2] X.env = (false, eval (.Call (.Name "set" p2) [e] [] q2) X.env) :: starEach [] X.env := by rfl)
    (hs2 : starEach [e] X.env = (false, eval e X.env) :: starEach [] X.env := by rfl) :
    PE X (.Call (.Name "sorted" p1) [.Call (.Name "set" p2) [e] [] q2] [] q1) (tSortedSet K te) := by
  subst hK
  refine ⟨fun pins s σ H Q I h => ?_⟩
  refine wpAny_Call_Name_kw (ld_blt I hg1 hm1 PyProof.Rows.boot_sorted ?_)
  refine PyProof.Rows.callWith_builtin1 ?_ hs rfl
  rw [hs]
  refine Calls.spliced_cons ?_
  refine wpAny_Call_Name_kw (ld_blt I hg2 hm2 PyProof.Rows.boot_set ?_)
  refine PyProof.Rows.callWith_type1 ?_ hs2 rfl
  rw [hs2]
  refine Calls.spliced_cons (thn (he.run pins s σ H _ I h) fun u s1 ⟨x, H1, I1, rx, a, xs, ex, hl, hz, q⟩ => ?_)
  subst ex
  obtain rfl : u = Value.ref a := rx
  obtain ⟨its, rv, pl, _⟩ := I1.list hl
  have lx : xs.length = its.length := by
    have y := rv.length
    rw [List.length_map] at y
    exact y
  refine Calls.spliced_nil ?_
  have cm := I1.ok.hd hc
  refine call_setT cm pl.isList (xs := xs) (by simpa using rv.strs) (by rw [List.size_toArray, show scanBound = 4096 from rfl]; omega) fun h' tk L T mL lL kp => ?_
  refine Calls.spliced_nil ?_
  have k1 : ∀ b o, s1.heap.get? b = some o → h'.get? b = some o := fun b o e => kp b o (Heap.lt_size e) e
  have nn : s1.heap.objs.size ≤ h'.objs.size := by
    obtain ⟨ob, _, _, _, ho, _⟩ := T
    exact Nat.le_of_lt (Heap.lt_size ho)
  rw [List.size_toArray] at lL
  refine sorted_setT T cm (by omega) fun s2 p out c ys k2 g2 o2 hp2 ho2 st pm so nd => ?_
  have kk : ∀ b o, s1.heap.get? b = some o → s2.heap.get? b = some o := fun b o e => k2 b o (k1 b o e)
  have np : s1.heap.objs.size ≤ p := Nat.le_trans nn hp2
  have fr : H1 p = none := I1.hok.fresh np
  have ly : (ys.map V.str).length ≤ sizeLine := by
    rw [List.length_map, pm.length_eq, sizeLine_eq]
    omega
  have J : Inv X pins σ (upd H1 p (.lst (ys.map V.str))) { s1 with heap := s2.heap, gens := s2.gens, drawn := s2.drawn, toks := s2.toks } :=
    I1.call (ch := []) (Un.laid kk np fr) (I1.hok.laid kk np ⟨ly, out.toList, c, vals_of_strs st, ho2⟩) (by rw [g2]; exact I1.bare) (fun _ y => nomatch y)
  have es : s2 = { s1 with heap := s2.heap, gens := s2.gens, drawn := s2.drawn, toks := s2.toks } := by
    cases s2
    cases s1
    cases o2
    rfl
  rw [es]
  exact ⟨.ref p, _, J, rfl, q ys p so (pm.nodup_iff.mpr nd) (fun y => by rw [pm.mem_iff, mL]) fr⟩
end
end Eyes

set_option Elab.async false
set_option linter.all false
set_option maxRecDepth 100000
set_option maxHeartbeats 4000000
/-! ==, repr() and bool() of own instances; either of two rules. -/
namespace Eyes
open PySem PySem.Spec PyProof.Rows L2
def EqTo (K : PySem.W.Frag) (C : Addr) (H : Hp) (y : V) : Prop :=
  (∃ z, y = .str z ∧ PySem.W.notFirst K C (.type "str") = true) ∨ (∃ b zs, y = .ref b ∧ H b = some (.lst zs) ∧ PySem.W.notFirst K C (.type "list") = true) ∨ ∃ b dy gs, y = .ref b ∧ H b = some (.ins C dy gs)
def rEqOwn (K : PySem.W.Frag) (C : Addr) (sp : Sp) : R2 := fun x y H Q => ∃ a dx fs, x = .ref a ∧ H a = some (.ins C dx fs) ∧ EqTo K C H y ∧ sp [.ref a, y] H Q (fun _ _ _ => False)
def rReprOwn (C : Addr) (sp : Sp) : List V → Hp → VK → Prop := fun xs H Q => ∃ a dx fs, xs = [.ref a] ∧ H a = some (.ins C dx fs) ∧ sp [.ref a] H (fun v H' => ∃ z, v = .str z ∧ Q v H') (fun _ _ _ => False)
def rBoolOwn (K : PySem.W.Frag) (C : Addr) : List V → Hp → VK → Prop := fun xs H Q => ∃ a dx fs, xs = [.ref a] ∧ H a = some (.ins C dx fs) ∧ PySem.W.findIn K (.ref C) "__bool__" = some none ∧ PySem.W.findIn K (.ref C) "__len__" = some none ∧ Q (.bl true) H
theorem truthy_own {M : Model} {A : Around} {E : Value → Shared → Prop} {s : Shared} {K : PySem.W.Frag} {x C : Addr} {ox : Obj} {od : Option Obj} {Q : Bool → Shared → Prop} (X : K.In s.heap) (I : PySem.W.InstAt s.heap x ox C od) (hs : PySem.W.findIn K (.ref C) "__bool__" = some none) (hl : PySem.W.findIn K (.ref C) "__len__" = some none) (h : Q true s) :
    wpAny M A (truthy (.ref x)) Q E s := by
  unfold truthy
  refine wpAny_bind (m := callSpecial? (.ref x) (Str.ofString "__bool__")) (wpAny_bind (wpAny_bind (I.type.here ((PySem.W.looks_findIn X hs).here (wpAny_pure ?_)))))
  refine wpAny_bind (wpAny_bind (I.type.here ((PySem.W.looks_findIn X hl).here ?_)))
  exact wpAny_pure h
theorem meets_boolOwn {K : PySem.W.Frag} {x C : Addr} {ox : Obj} {od : Option Obj} (hs : PySem.W.findIn K (.ref C) "__bool__" = some none) (hl : PySem.W.findIn K (.ref C) "__len__" = some none) :
    Meets (Builtin.«bool.__new__» ⟨[.type "bool", .ref x], []⟩) (fun _ R s => (K.In s.heap ∧ PySem.W.InstAt s.heap x ox C od) ∧ R (.ok (.ret (.bool true))) s) :=
  Meets.of_wp fun prog w A R s hr => by
    obtain ⟨⟨X, I⟩, hr⟩ := hr
    obtain ⟨hp, g, d, tk, os⟩ := s
    have f1 := PySem.F.conv_sub_bool
    repeat (any_goals (first | assumption | (with_reducible refine truthy_own X I hs hl ?_) | wp_step))
    all_goals first | exact ⟨_, rfl, hr⟩ | exact hr | skip
section
variable {X : Cx} {C : Addr} {j k : Nat} {ps : List Str} {sp : Sp}
theorem op_eqOwn (G : PrM X.prog X.w X.K X.mg X.base C "__eq__" ps j sp) (hr : Room k X.A) (hj : j ≤ k := by first | decide | omega) : OpR X (compareOp .Eq) (rEqOwn X.K C sp) := by
  intro pins s σ H x y v u Q I rx ry h
  obtain ⟨f, fd, M, hb, F⟩ := G
  obtain ⟨a, dx, fs, rfl, ha, hy, q⟩ := h
  cases rx
  obtain ⟨mA, J, _⟩ := ins_get I.hok ha
  obtain ⟨od, J, _⟩ := J.look
  obtain ⟨m, hF⟩ := I.fr
  have hrj := hr.mono hj
  have go : ∀ {tb : Value}, PySem.W.Looks (model X.prog X.w) s.heap (typeOf u) tb → PySem.W.notFirst X.K C tb = true → wpAny (model X.prog X.w) X.A (compareOp .Eq (.ref a) u) (EP X pins σ Q) X.xe s := fun {tb} L hn => by
    refine PySem.W.cmp_ofEq (PySem.W.cmp_K hrj.units0 hF I.ok.mod.kin J L hn M.at_ M.fn ?_)
    exact run_at F hb (fun _ _ _ _ _ _ _ h => h.elim) hrj rfl I (vs := [.ref a, y]) (.cons rfl (.cons ry .nil)) q fun v u s' H' I' rv qv => cmpBack_of rv ⟨v, H', I', rv, qv⟩
  rcases hy with ⟨z, rfl, hn⟩ | ⟨b, zs, rfl, hz, hn⟩ | ⟨b, dy, gs, rfl, hz⟩
  · obtain ⟨t, rfl⟩ := ry
    exact go (PySem.W.Looks.of_pure rfl) hn
  · cases ry
    obtain ⟨_, its, n, _, ho⟩ := I.hok b _ hz
    exact go (fun A Q E s k q => wpAny_typeOf_ref (k _ _ ho) q) hn
  · cases ry
    obtain ⟨mB, J', _⟩ := ins_get I.hok hz
    obtain ⟨od', J', _⟩ := J'.look
    exact go J'.type (by unfold PySem.W.notFirst; simp)
theorem call_reprOwn (G : PrM X.prog X.w X.K X.mg X.base C "__repr__" ps j sp) (hr : Room k X.A) (hj : j + 2 ≤ k := by first | decide | omega) : CallR X (.builtin "repr") (rReprOwn C sp) := by
  intro pins s σ H xs us Q I r h
  obtain ⟨f, fd, M, hb, F⟩ := G
  obtain ⟨a, dx, fs, rfl, ha, q⟩ := h
  obtain ⟨u, rfl, ru⟩ := vals1 r
  cases ru
  obtain ⟨mA, J, _⟩ := ins_get I.hok ha
  obtain ⟨od, J, _⟩ := J.look
  obtain ⟨m, hF⟩ := I.fr
  have hr2 : Room j X.A.in1 := (hr.mono (show j + 1 ≤ k by omega)).in1
  refine PySem.W.repr_K hr2.units0 hF I.ok.mod.kin J M.at_ M.fn ?_
  refine run_at F hb (fun _ _ _ _ _ _ _ h => h.elim) hr2 rfl I (vs := [.ref a]) (.cons rfl .nil) q fun v u s' H' I' rv qv => ?_
  obtain ⟨z, rfl, qv⟩ := qv
  obtain ⟨t, rfl⟩ := rv
  exact ⟨.str z, H', I', ⟨t, rfl⟩, qv⟩
theorem call_boolOwn : CallR X (.type "bool") (rBoolOwn X.K C) := by
  intro pins s σ H xs us Q I r h
  obtain ⟨a, dx, fs, rfl, ha, h1, h2, q⟩ := h
  obtain ⟨u, rfl, ru⟩ := vals1 r
  cases ru
  obtain ⟨mA, J, _⟩ := ins_get I.hok ha
  obtain ⟨od, J, _⟩ := J.look
  refine call_bool_1 (meets_boolOwn (K := X.K) (od := some od) h1 h2) ⟨⟨I.kIn, J⟩, ?_⟩
  exact ⟨rfl, .bl true, H, I, rfl, q⟩
theorem pi_listK {K : PySem.W.Frag} (hK : X.K = K) {tg l : Expr} {tl : TE} (hl : PE X l tl) : PI X tg l (iList K tl) := hK ▸ pi_list hl
theorem opR_or {f : Value → Value → Sem Value} {r1 r2 : R2} (h1 : OpR X f r1) (h2 : OpR X f r2) : OpR X f (fun x y H Q => r1 x y H Q ∨ r2 x y H Q) := by
  intro pins s σ H x y v u Q I rx ry h
  rcases h with h | h
  · exact h1 pins s σ H x y v u Q I rx ry h
  · exact h2 pins s σ H x y v u Q I rx ry h
theorem pi_or {tg it : Expr} {w1 w2 : TI} (h1 : PI X tg it w1) (h2 : PI X tg it w2) : PI X tg it (fun σ H Q => w1 σ H Q ∨ w2 σ H Q) := by
  refine ⟨fun pins s σ H Q I h => ?_⟩
  rcases h with h | h
  · exact h1.run pins s σ H Q I h
  · exact h2.run pins s σ H Q I h
theorem call_or {v : Value} {r1 r2 : List V → Hp → VK → Prop} (h1 : CallR X v r1) (h2 : CallR X v r2) : CallR X v (fun xs H Q => r1 xs H Q ∨ r2 xs H Q) := by
  intro pins s σ H xs us Q I r h
  rcases h with h | h
  · exact h1 pins s σ H xs us Q I r h
  · exact h2 pins s σ H xs us Q I r h
end
section
variable {X : Cx}
theorem call_len_seqK {K : PySem.W.Frag} (hK : X.K = K) : CallR X (.builtin "len") (fun xs H Q => ∃ p ys, xs = [V.ref p] ∧ (SqL K H p ys ∨ SqT K H p ys) ∧ Q (V.int (ys.length : Nat)) H) := hK ▸ call_len_seq
theorem call_isiK {K : PySem.W.Frag} (hK : X.K = K) : CallR X (.builtin "isinstance") (rIsi K) := hK ▸ call_isi
end
end Eyes

set_option Elab.async false
set_option linter.all false
set_option maxRecDepth 100000
set_option maxHeartbeats 4000000
namespace Eyes
open PySem PySem.Spec PyProof.Rows L2 Evl TL
def topS (i : Nat) : Stmt := PySem.Challenge.pw_pooledeyes_k07_partings_joined_and_met.main.body.getD i (.Pass ⟨0, 0, 0, 0⟩)
abbrev s_InvalidName___init : Stmt := inClass (topS 2) 0
abbrev n_InvalidName___init : List Str := ["self", "value"]
abbrev p_InvalidName___init : List Str := ["self", "value"]
theorem sc_InvalidName___init : FnScope n_InvalidName___init p_InvalidName___init (defScope s_InvalidName___init) := ⟨rfl, rfl, rfl, by decide +kernel, rfl, by decide +kernel, by decide +kernel⟩
abbrev s_InvalidNumber___init : Stmt := inClass (topS 3) 0
abbrev n_InvalidNumber___init : List Str := ["self", "value"]
abbrev p_InvalidNumber___init : List Str := ["self", "value"]
theorem sc_InvalidNumber___init : FnScope n_InvalidNumber___init p_InvalidNumber___init (defScope s_InvalidNumber___init) := ⟨rfl, rfl, rfl, by decide +kernel, rfl, by decide +kernel, by decide +kernel⟩
abbrev s_InvalidText___init : Stmt := inClass (topS 4) 0
abbrev n_InvalidText___init : List Str := ["self", "at"]
abbrev p_InvalidText___init : List Str := ["self", "at"]
theorem sc_InvalidText___init : FnScope n_InvalidText___init p_InvalidText___init (defScope s_InvalidText___init) := ⟨rfl, rfl, rfl, by decide +kernel, rfl, by decide +kernel, by decide +kernel⟩
abbrev s_InvalidCircle___init : Stmt := inClass (topS 5) 0
abbrev n_InvalidCircle___init : List Str := ["self", "at"]
abbrev p_InvalidCircle___init : List Str := ["self", "at"]
theorem sc_InvalidCircle___init : FnScope n_InvalidCircle___init p_InvalidCircle___init (defScope s_InvalidCircle___init) := ⟨rfl, rfl, rfl, by decide +kernel, rfl, by decide +kernel, by decide +kernel⟩
abbrev s_InvalidTie___init : Stmt := inClass (topS 6) 0
abbrev n_InvalidTie___init : List Str := ["self", "at"]
abbrev p_InvalidTie___init : List Str := ["self", "at"]
theorem sc_InvalidTie___init : FnScope n_InvalidTie___init p_InvalidTie___init (defScope s_InvalidTie___init) := ⟨rfl, rfl, rfl, by decide +kernel, rfl, by decide +kernel, by decide +kernel⟩
abbrev s_InvalidParting___init : Stmt := inClass (topS 7) 0
abbrev n_InvalidParting___init : List Str := ["self", "value"]
abbrev p_InvalidParting___init : List Str := ["self", "value"]
theorem sc_InvalidParting___init : FnScope n_InvalidParting___init p_InvalidParting___init (defScope s_InvalidParting___init) := ⟨rfl, rfl, rfl, by decide +kernel, rfl, by decide +kernel, by decide +kernel⟩
abbrev s_InvalidCase___init : Stmt := inClass (topS 8) 0
abbrev n_InvalidCase___init : List Str := ["self", "value"]
abbrev p_InvalidCase___init : List Str := ["self", "value"]
theorem sc_InvalidCase___init : FnScope n_InvalidCase___init p_InvalidCase___init (defScope s_InvalidCase___init) := ⟨rfl, rfl, rfl, by decide +kernel, rfl, by decide +kernel, by decide +kernel⟩
abbrev s_TooMany___init : Stmt := inClass (topS 9) 0
abbrev n_TooMany___init : List Str := ["self", "what", "most"]
abbrev p_TooMany___init : List Str := ["self", "what", "most"]
theorem sc_TooMany___init : FnScope n_TooMany___init p_TooMany___init (defScope s_TooMany___init) := ⟨rfl, rfl, rfl, by decide +kernel, rfl, by decide +kernel, by decide +kernel⟩
abbrev s_is_name : Stmt := topS 14
abbrev n_is_name : List Str := ["value", "letter"]
abbrev p_is_name : List Str := ["value"]
theorem sc_is_name : FnScope n_is_name p_is_name (defScope s_is_name) := ⟨rfl, rfl, rfl, by decide +kernel, rfl, by decide +kernel, by decide +kernel⟩
abbrev s_is_number : Stmt := topS 15
abbrev n_is_number : List Str := ["value", "least", "most"]
abbrev p_is_number : List Str := ["value", "least", "most"]
theorem sc_is_number : FnScope n_is_number p_is_number (defScope s_is_number) := ⟨rfl, rfl, rfl, by decide +kernel, rfl, by decide +kernel, by decide +kernel⟩
abbrev s_is_parting : Stmt := topS 18
abbrev n_is_parting : List Str := ["value", "at"]
abbrev p_is_parting : List Str := ["value"]
theorem sc_is_parting : FnScope n_is_parting p_is_parting (defScope s_is_parting) := ⟨rfl, rfl, rfl, by decide +kernel, rfl, by decide +kernel, by decide +kernel⟩
abbrev s_is_item : Stmt := topS 19
abbrev n_is_item : List Str := ["row", "at"]
abbrev p_is_item : List Str := ["row", "at"]
theorem sc_is_item : FnScope n_is_item p_is_item (defScope s_is_item) := ⟨rfl, rfl, rfl, by decide +kernel, rfl, by decide +kernel, by decide +kernel⟩
abbrev s_apart : Stmt := topS 20
abbrev n_apart : List Str := ["many"]
abbrev p_apart : List Str := ["many"]
theorem sc_apart : FnScope n_apart p_apart (defScope s_apart) := ⟨rfl, rfl, rfl, by decide +kernel, rfl, by decide +kernel, by decide +kernel⟩
abbrev s_together : Stmt := topS 21
abbrev n_together : List Str := ["many"]
abbrev p_together : List Str := ["many"]
theorem sc_together : FnScope n_together p_together (defScope s_together) := ⟨rfl, rfl, rfl, by decide +kernel, rfl, by decide +kernel, by decide +kernel⟩
abbrev s_parting_of : Stmt := topS 22
abbrev n_parting_of : List Str := ["many", "pairs", "at", "pair"]
abbrev p_parting_of : List Str := ["many", "pairs"]
theorem sc_parting_of : FnScope n_parting_of p_parting_of (defScope s_parting_of) := ⟨rfl, rfl, rfl, by decide +kernel, rfl, by decide +kernel, by decide +kernel⟩
abbrev s_is_pair : Stmt := topS 23
abbrev n_is_pair : List Str := ["value", "many"]
abbrev p_is_pair : List Str := ["value", "many"]
theorem sc_is_pair : FnScope n_is_pair p_is_pair (defScope s_is_pair) := ⟨rfl, rfl, rfl, by decide +kernel, rfl, by decide +kernel, by decide +kernel⟩
abbrev s_lots_of : Stmt := topS 24
abbrev n_lots_of : List Str := ["parting", "lots", "case", "item", "lot"]
abbrev p_lots_of : List Str := ["parting"]
theorem sc_lots_of : FnScope n_lots_of p_lots_of (defScope s_lots_of) := ⟨rfl, rfl, rfl, by decide +kernel, rfl, by decide +kernel, by decide +kernel⟩
abbrev s_meet_of : Stmt := topS 25
abbrev n_meet_of : List Str := ["first", "second"]
abbrev p_meet_of : List Str := ["first", "second"]
theorem sc_meet_of : FnScope n_meet_of p_meet_of (defScope s_meet_of) := ⟨rfl, rfl, rfl, by decide +kernel, rfl, by decide +kernel, by decide +kernel⟩
abbrev s_join_of : Stmt := topS 26
abbrev n_join_of : List Str := ["first", "second"]
abbrev p_join_of : List Str := ["first", "second"]
theorem sc_join_of : FnScope n_join_of p_join_of (defScope s_join_of) := ⟨rfl, rfl, rfl, by decide +kernel, rfl, by decide +kernel, by decide +kernel⟩
abbrev s_is_within : Stmt := topS 27
abbrev n_is_within : List Str := ["first", "second"]
abbrev p_is_within : List Str := ["first", "second"]
theorem sc_is_within : FnScope n_is_within p_is_within (defScope s_is_within) := ⟨rfl, rfl, rfl, by decide +kernel, rfl, by decide +kernel, by decide +kernel⟩
abbrev s_check_partings : Stmt := topS 28
abbrev n_check_partings : List Str := ["first", "second", "value"]
abbrev p_check_partings : List Str := ["first", "second"]
theorem sc_check_partings : FnScope n_check_partings p_check_partings (defScope s_check_partings) := ⟨rfl, rfl, rfl, by decide +kernel, rfl, by decide +kernel, by decide +kernel⟩
abbrev s_linked : Stmt := topS 29
abbrev n_linked : List Str := ["many", "pairs", "lead", "pair", "ends", "end", "case"]
abbrev p_linked : List Str := ["many", "pairs"]
theorem sc_linked : FnScope n_linked p_linked (defScope s_linked) := ⟨rfl, rfl, rfl, by decide +kernel, rfl, by decide +kernel, by decide +kernel⟩
abbrev s_by_keys : Stmt := topS 30
abbrev n_by_keys : List Str := ["keys", "firsts", "found", "case", "key"]
abbrev p_by_keys : List Str := ["keys"]
theorem sc_by_keys : FnScope n_by_keys p_by_keys (defScope s_by_keys) := ⟨rfl, rfl, rfl, by decide +kernel, rfl, by decide +kernel, by decide +kernel⟩
abbrev s_met : Stmt := topS 31
abbrev n_met : List Str := ["partings"]
abbrev p_met : List Str := ["partings"]
theorem sc_met : FnScope n_met p_met (defScope s_met) := ⟨rfl, rfl, rfl, by decide +kernel, rfl, by decide +kernel, by decide +kernel⟩
abbrev s_joined : Stmt := topS 32
abbrev n_joined : List Str := ["partings", "pairs", "parting", "case", "item"]
abbrev p_joined : List Str := ["partings"]
theorem sc_joined : FnScope n_joined p_joined (defScope s_joined) := ⟨rfl, rfl, rfl, by decide +kernel, rfl, by decide +kernel, by decide +kernel⟩
abbrev s_within : Stmt := topS 33
abbrev n_within : List Str := ["first", "second", "at", "item"]
abbrev p_within : List Str := ["first", "second"]
theorem sc_within : FnScope n_within p_within (defScope s_within) := ⟨rfl, rfl, rfl, by decide +kernel, rfl, by decide +kernel, by decide +kernel⟩
abbrev s_without_repeats : Stmt := topS 36
abbrev n_without_repeats : List Str := ["circles", "kept", "circle", "text"]
abbrev p_without_repeats : List Str := ["circles"]
theorem sc_without_repeats : FnScope n_without_repeats p_without_repeats (defScope s_without_repeats) := ⟨rfl, rfl, rfl, by decide +kernel, rfl, by decide +kernel, by decide +kernel⟩
abbrev s_flattened : Stmt := topS 37
abbrev n_flattened : List Str := ["kind", "circles", "flat", "circle"]
abbrev p_flattened : List Str := ["kind", "circles"]
theorem sc_flattened : FnScope n_flattened p_flattened (defScope s_flattened) := ⟨rfl, rfl, rfl, by decide +kernel, rfl, by decide +kernel, by decide +kernel⟩
abbrev s_size_of : Stmt := topS 38
abbrev n_size_of : List Str := ["parts", "part"]
abbrev p_size_of : List Str := ["parts"]
theorem sc_size_of : FnScope n_size_of p_size_of (defScope s_size_of) := ⟨rfl, rfl, rfl, by decide +kernel, rfl, by decide +kernel, by decide +kernel⟩
abbrev s_depth_over : Stmt := topS 39
abbrev n_depth_over : List Str := ["parts", "part"]
abbrev p_depth_over : List Str := ["parts"]
theorem sc_depth_over : FnScope n_depth_over p_depth_over (defScope s_depth_over) := ⟨rfl, rfl, rfl, by decide +kernel, rfl, by decide +kernel, by decide +kernel⟩
abbrev s_inner_text : Stmt := topS 40
abbrev n_inner_text : List Str := ["part"]
abbrev p_inner_text : List Str := ["part"]
theorem sc_inner_text : FnScope n_inner_text p_inner_text (defScope s_inner_text) := ⟨rfl, rfl, rfl, by decide +kernel, rfl, by decide +kernel, by decide +kernel⟩
abbrev s_text_of : Stmt := topS 41
abbrev n_text_of : List Str := ["kind", "parts", "texts", "part"]
abbrev p_text_of : List Str := ["kind", "parts"]
theorem sc_text_of : FnScope n_text_of p_text_of (defScope s_text_of) := ⟨rfl, rfl, rfl, by decide +kernel, rfl, by decide +kernel, by decide +kernel⟩
abbrev s_Circle___init : Stmt := inClass (topS 42) 1
abbrev n_Circle___init : List Str := ["self", "kind", "name", "parts"]
abbrev p_Circle___init : List Str := ["self", "kind", "name", "parts"]
theorem sc_Circle___init : FnScope n_Circle___init p_Circle___init (defScope s_Circle___init) := ⟨rfl, rfl, rfl, by decide +kernel, rfl, by decide +kernel, by decide +kernel⟩
abbrev s_Circle_parts : Stmt := inClass (topS 42) 2
abbrev n_Circle_parts : List Str := ["self"]
abbrev p_Circle_parts : List Str := ["self"]
theorem sc_Circle_parts : FnScope n_Circle_parts p_Circle_parts (defScope s_Circle_parts) := ⟨rfl, rfl, rfl, by decide +kernel, rfl, by decide +kernel, by decide +kernel⟩
abbrev s_Circle_eyes : Stmt := inClass (topS 42) 3
abbrev n_Circle_eyes : List Str := ["self", "part", "name"]
abbrev p_Circle_eyes : List Str := ["self"]
theorem sc_Circle_eyes : FnScope n_Circle_eyes p_Circle_eyes (defScope s_Circle_eyes) := ⟨rfl, rfl, rfl, by decide +kernel, rfl, by decide +kernel, by decide +kernel⟩
abbrev s_Circle___str : Stmt := inClass (topS 42) 4
abbrev n_Circle___str : List Str := ["self"]
abbrev p_Circle___str : List Str := ["self"]
theorem sc_Circle___str : FnScope n_Circle___str p_Circle___str (defScope s_Circle___str) := ⟨rfl, rfl, rfl, by decide +kernel, rfl, by decide +kernel, by decide +kernel⟩
abbrev s_Circle___repr : Stmt := inClass (topS 42) 5
abbrev n_Circle___repr : List Str := ["self"]
abbrev p_Circle___repr : List Str := ["self"]
theorem sc_Circle___repr : FnScope n_Circle___repr p_Circle___repr (defScope s_Circle___repr) := ⟨rfl, rfl, rfl, by decide +kernel, rfl, by decide +kernel, by decide +kernel⟩
abbrev s_Circle___eq : Stmt := inClass (topS 42) 6
abbrev n_Circle___eq : List Str := ["self", "other"]
abbrev p_Circle___eq : List Str := ["self", "other"]
theorem sc_Circle___eq : FnScope n_Circle___eq p_Circle___eq (defScope s_Circle___eq) := ⟨rfl, rfl, rfl, by decide +kernel, rfl, by decide +kernel, by decide +kernel⟩
abbrev s_Circle___and : Stmt := inClass (topS 42) 7
abbrev n_Circle___and : List Str := ["self", "other"]
abbrev p_Circle___and : List Str := ["self", "other"]
theorem sc_Circle___and : FnScope n_Circle___and p_Circle___and (defScope s_Circle___and) := ⟨rfl, rfl, rfl, by decide +kernel, rfl, by decide +kernel, by decide +kernel⟩
abbrev s_Circle___or : Stmt := inClass (topS 42) 8
abbrev n_Circle___or : List Str := ["self", "other"]
abbrev p_Circle___or : List Str := ["self", "other"]
theorem sc_Circle___or : FnScope n_Circle___or p_Circle___or (defScope s_Circle___or) := ⟨rfl, rfl, rfl, by decide +kernel, rfl, by decide +kernel, by decide +kernel⟩
abbrev s_eye : Stmt := topS 43
abbrev n_eye : List Str := ["name"]
abbrev p_eye : List Str := ["name"]
theorem sc_eye : FnScope n_eye p_eye (defScope s_eye) := ⟨rfl, rfl, rfl, by decide +kernel, rfl, by decide +kernel, by decide +kernel⟩
abbrev s_built : Stmt := topS 44
abbrev n_built : List Str := ["kind", "circles", "parts"]
abbrev p_built : List Str := ["kind", "circles"]
theorem sc_built : FnScope n_built p_built (defScope s_built) := ⟨rfl, rfl, rfl, by decide +kernel, rfl, by decide +kernel, by decide +kernel⟩
abbrev s_law_bag : Stmt := topS 46
abbrev n_law_bag : List Str := ["_law_script", "_law_mixed", "_law_piece"]
abbrev p_law_bag : List Str := ["_law_script"]
theorem sc_law_bag : FnScope n_law_bag p_law_bag (defScope s_law_bag) := ⟨rfl, rfl, rfl, by decide +kernel, rfl, by decide +kernel, by decide +kernel⟩
abbrev s_law_draw : Stmt := topS 47
abbrev n_law_draw : List Str := ["_law_bag_here", "_law_sides", "_law_piece", "_law_digit", "_law_state"]
abbrev p_law_draw : List Str := ["_law_bag_here", "_law_sides"]
theorem sc_law_draw : FnScope n_law_draw p_law_draw (defScope s_law_draw) := ⟨rfl, rfl, rfl, by decide +kernel, rfl, by decide +kernel, by decide +kernel⟩
abbrev s_law_of : Stmt := topS 48
abbrev n_law_of : List Str := ["_law_bag_here", "_law_things"]
abbrev p_law_of : List Str := ["_law_bag_here", "_law_things"]
theorem sc_law_of : FnScope n_law_of p_law_of (defScope s_law_of) := ⟨rfl, rfl, rfl, by decide +kernel, rfl, by decide +kernel, by decide +kernel⟩
abbrev s_law_same : Stmt := topS 49
abbrev n_law_same : List Str := ["_law_found", "_law_due", "_law_mark", "_law_x", "_law_y"]
abbrev p_law_same : List Str := ["_law_found", "_law_due"]
theorem sc_law_same : FnScope n_law_same p_law_same (defScope s_law_same) := ⟨rfl, rfl, rfl, by decide +kernel, rfl, by decide +kernel, by decide +kernel⟩
abbrev s_law_try : Stmt := topS 50
abbrev n_law_try : List Str := ["_law_ask", "e"]
abbrev p_law_try : List Str := ["_law_ask"]
theorem sc_law_try : FnScope n_law_try p_law_try (defScope s_law_try) := ⟨rfl, rfl, rfl, by decide +kernel, rfl, by decide +kernel, by decide +kernel⟩
abbrev s_law_why : Stmt := topS 51
abbrev n_law_why : List Str := ["_law_ask", "_law_found"]
abbrev p_law_why : List Str := ["_law_ask"]
theorem sc_law_why : FnScope n_law_why p_law_why (defScope s_law_why) := ⟨rfl, rfl, rfl, by decide +kernel, rfl, by decide +kernel, by decide +kernel⟩
abbrev s_law_circle : Stmt := topS 52
abbrev n_law_circle : List Str := ["_law_node", "_law_found", "_law_x"]
abbrev p_law_circle : List Str := ["_law_node"]
theorem sc_law_circle : FnScope n_law_circle p_law_circle (defScope s_law_circle) := ⟨rfl, rfl, rfl, by decide +kernel, rfl, by decide +kernel, by decide +kernel⟩
abbrev s_law_odd : Stmt := topS 53
abbrev n_law_odd : List Str := ["_law_bag_here", "_law_more"]
abbrev p_law_odd : List Str := ["_law_bag_here", "_law_more"]
theorem sc_law_odd : FnScope n_law_odd p_law_odd (defScope s_law_odd) := ⟨rfl, rfl, rfl, by decide +kernel, rfl, by decide +kernel, by decide +kernel⟩
abbrev s_law_is_case : Stmt := topS 54
abbrev n_law_is_case : List Str := ["_law_thing", "_law_size"]
abbrev p_law_is_case : List Str := ["_law_thing", "_law_size"]
theorem sc_law_is_case : FnScope n_law_is_case p_law_is_case (defScope s_law_is_case) := ⟨rfl, rfl, rfl, by decide +kernel, rfl, by decide +kernel, by decide +kernel⟩
abbrev s_law_is_rows : Stmt := topS 55
abbrev n_law_is_rows : List Str := ["_law_thing", "_law_k"]
abbrev p_law_is_rows : List Str := ["_law_thing"]
theorem sc_law_is_rows : FnScope n_law_is_rows p_law_is_rows (defScope s_law_is_rows) := ⟨rfl, rfl, rfl, by decide +kernel, rfl, by decide +kernel, by decide +kernel⟩
abbrev s_law_alone : Stmt := topS 56
abbrev n_law_alone : List Str := ["_law_size"]
abbrev p_law_alone : List Str := ["_law_size"]
theorem sc_law_alone : FnScope n_law_alone p_law_alone (defScope s_law_alone) := ⟨rfl, rfl, rfl, by decide +kernel, rfl, by decide +kernel, by decide +kernel⟩
abbrev s_law_merged : Stmt := topS 57
abbrev n_law_merged : List Str := ["_law_rows_here", "_law_couples_here", "_law_found", "_law_x", "_law_y", "_law_low", "_law_high", "_law_z"]
abbrev p_law_merged : List Str := ["_law_rows_here", "_law_couples_here"]
theorem sc_law_merged : FnScope n_law_merged p_law_merged (defScope s_law_merged) := ⟨rfl, rfl, rfl, by decide +kernel, rfl, by decide +kernel, by decide +kernel⟩
abbrev s_law_met : Stmt := topS 58
abbrev n_law_met : List Str := ["_law_p", "_law_q", "_law_both", "_law_x"]
abbrev p_law_met : List Str := ["_law_p", "_law_q"]
theorem sc_law_met : FnScope n_law_met p_law_met (defScope s_law_met) := ⟨rfl, rfl, rfl, by decide +kernel, rfl, by decide +kernel, by decide +kernel⟩
abbrev s_law_joined : Stmt := topS 59
abbrev n_law_joined : List Str := ["_law_p", "_law_q", "_law_k"]
abbrev p_law_joined : List Str := ["_law_p", "_law_q"]
theorem sc_law_joined : FnScope n_law_joined p_law_joined (defScope s_law_joined) := ⟨rfl, rfl, rfl, by decide +kernel, rfl, by decide +kernel, by decide +kernel⟩
abbrev s_law_inner : Stmt := topS 60
abbrev n_law_inner : List Str := ["_law_p", "_law_q", "_law_k"]
abbrev p_law_inner : List Str := ["_law_p", "_law_q"]
theorem sc_law_inner : FnScope n_law_inner p_law_inner (defScope s_law_inner) := ⟨rfl, rfl, rfl, by decide +kernel, rfl, by decide +kernel, by decide +kernel⟩
abbrev s_law_group : Stmt := topS 61
abbrev n_law_group : List Str := ["_law_rows_here", "_law_spot", "_law_k"]
abbrev p_law_group : List Str := ["_law_rows_here", "_law_spot"]
theorem sc_law_group : FnScope n_law_group p_law_group (defScope s_law_group) := ⟨rfl, rfl, rfl, by decide +kernel, rfl, by decide +kernel, by decide +kernel⟩
abbrev s_law_rows : Stmt := topS 62
abbrev n_law_rows : List Str := ["_law_bag_here", "_law_size", "_law_found", "_law_k", "_law_roots"]
abbrev p_law_rows : List Str := ["_law_bag_here", "_law_size"]
theorem sc_law_rows : FnScope n_law_rows p_law_rows (defScope s_law_rows) := ⟨rfl, rfl, rfl, by decide +kernel, rfl, by decide +kernel, by decide +kernel⟩
abbrev s_law_couples : Stmt := topS 63
abbrev n_law_couples : List Str := ["_law_bag_here", "_law_size", "_law_count", "_law_k"]
abbrev p_law_couples : List Str := ["_law_bag_here", "_law_size", "_law_count"]
theorem sc_law_couples : FnScope n_law_couples p_law_couples (defScope s_law_couples) := ⟨rfl, rfl, rfl, by decide +kernel, rfl, by decide +kernel, by decide +kernel⟩
abbrev s_law_lattice_so : Stmt := topS 64
abbrev n_law_lattice_so : List Str := ["_law_p", "_law_q", "_law_r", "_law_met_here", "_law_joined_here", "_law_told", "_law_due"]
abbrev p_law_lattice_so : List Str := ["_law_p", "_law_q", "_law_r"]
theorem sc_law_lattice_so : FnScope n_law_lattice_so p_law_lattice_so (defScope s_law_lattice_so) := ⟨rfl, rfl, rfl, by decide +kernel, rfl, by decide +kernel, by decide +kernel⟩
abbrev s_law_lots_so : Stmt := topS 65
abbrev n_law_lots_so : List Str := ["_law_p", "_law_size", "_law_due", "_law_k", "_law_held"]
abbrev p_law_lots_so : List Str := ["_law_p", "_law_size"]
theorem sc_law_lots_so : FnScope n_law_lots_so p_law_lots_so (defScope s_law_lots_so) := ⟨rfl, rfl, rfl, by decide +kernel, rfl, by decide +kernel, by decide +kernel⟩
abbrev s_law_near_rows : Stmt := topS 66
abbrev n_law_near_rows : List Str := ["_law_bag_here", "_law_p", "_law_spot", "_law_turn", "_law_wanted"]
abbrev p_law_near_rows : List Str := ["_law_bag_here", "_law_p"]
theorem sc_law_near_rows : FnScope n_law_near_rows p_law_near_rows (defScope s_law_near_rows) := ⟨rfl, rfl, rfl, by decide +kernel, rfl, by decide +kernel, by decide +kernel⟩
abbrev s_law_judged_so : Stmt := topS 67
abbrev n_law_judged_so : List Str := ["_law_bag_here", "_law_p", "_law_x", "_law_y", "_law_pair", "_law_due", "_law_whys", "_law_u", "_law_v"]
abbrev p_law_judged_so : List Str := ["_law_bag_here", "_law_p"]
theorem sc_law_judged_so : FnScope n_law_judged_so p_law_judged_so (defScope s_law_judged_so) := ⟨rfl, rfl, rfl, by decide +kernel, rfl, by decide +kernel, by decide +kernel⟩
abbrev s_law_pairs_so : Stmt := topS 68
abbrev n_law_pairs_so : List Str := ["_law_bag_here", "_law_size", "_law_couples_here", "_law_kept", "_law_due", "_law_told", "_law_k", "_law_z", "_law_spot", "_law_wrong", "_law_whys", "_law_bad", "_law_no_list", "_law_no_size", "_law_x", "_law_y"]
abbrev p_law_pairs_so : List Str := ["_law_bag_here", "_law_size"]
theorem sc_law_pairs_so : FnScope n_law_pairs_so p_law_pairs_so (defScope s_law_pairs_so) := ⟨rfl, rfl, rfl, by decide +kernel, rfl, by decide +kernel, by decide +kernel⟩
abbrev s_law : Stmt := topS 69
abbrev n_law : List Str := ["_law_script", "_law_bag_here", "_law_size", "_law_p", "_law_q", "_law_r", "_law_low", "_law_high", "_law_rows_here", "_law_turn", "_law_u", "_law_v", "_law_wide", "_law_due"]
abbrev p_law : List Str := ["_law_script"]
theorem sc_law : FnScope n_law p_law (defScope s_law) := ⟨rfl, rfl, rfl, by decide +kernel, rfl, by decide +kernel, by decide +kernel⟩
structure Adr where
  no : Nat
  Circle : Addr
  InvalidName : Addr
  InvalidNumber : Addr
  InvalidText : Addr
  InvalidCircle : Addr
  InvalidTie : Addr
  InvalidParting : Addr
  InvalidCase : Addr
  TooMany : Addr
  cdA : Addr
  tbA : Addr
  cdB : Addr
  tbB : Addr
structure Txt (K : PySem.W.Frag) (mg : Str → Option Value) (A : Adr) : Prop where
  n_isinstance : mg "isinstance" = none
  n_str : mg "str" = none
  n_len : mg "len" = none
  n_all : mg "all" = none
  n_bool : mg "bool" = none
  n_int : mg "int" = none
  n_tuple : mg "tuple" = none
  n_range : mg "range" = none
  n_list : mg "list" = none
  n_enumerate : mg "enumerate" = none
  n_max : mg "max" = none
  n_min : mg "min" = none
  n_zip : mg "zip" = none
  n_sum : mg "sum" = none
  n_sorted : mg "sorted" = none
  n_set : mg "set" = none
  n_NotImplemented : mg "NotImplemented" = none
  n_abs : mg "abs" = none
  n_dict : mg "dict" = none
  n_ValueError : mg "ValueError" = none
  n_LookupError : mg "LookupError" = none
  m_LETTERS : ∃ t, mg "LETTERS" = some (.str "abcdefghijklmnopqrstuvwxyz" t)
  m_MOST_LETTERS : ∃ t, mg "MOST_LETTERS" = some (.int 6 t)
  m_MOST_CASES : ∃ t, mg "MOST_CASES" = some (.int 2400 t)
  m_MOST_DEPTH : ∃ t, mg "MOST_DEPTH" = some (.int 20 t)
  m_Circle : mg "Circle" = some (.ref A.Circle)
  c_Circle : Cls K A.Circle
  y_Circle : ClsY K A.Circle
  s_Circle : PySem.W.selfFirst K A.Circle = true
  a_Circle_kind : NoAttr K A.Circle "kind"
  a_Circle_name : NoAttr K A.Circle "name"
  a_Circle_parts : NoAttr K A.Circle "_parts"
  a_Circle_size : NoAttr K A.Circle "size"
  a_Circle_depth : NoAttr K A.Circle "depth"
  a_Circle_text : NoAttr K A.Circle "_text"
  k_Circle_LIMIT : ∃ t, ClX.CRead K A.Circle (.type "type") ∧ ClX.CVal K A.Circle (.type "type") "LIMIT" (.int 60) (.int 60 t)
  q_Circle_LIMIT : ∃ t, Con K A.Circle "LIMIT" (.int 60) (.int 60 t)
  i_Circle : InitAt K A.Circle "Circle.__init__" s_Circle___init p_Circle___init
  t_Circle_parts : MethAt K A.Circle "parts" "Circle.parts" s_Circle_parts p_Circle_parts
  t_Circle_eyes : MethAt K A.Circle "eyes" "Circle.eyes" s_Circle_eyes p_Circle_eyes
  t_Circle___str : MethAt K A.Circle "__str__" "Circle.__str__" s_Circle___str p_Circle___str
  t_Circle___repr : MethAt K A.Circle "__repr__" "Circle.__repr__" s_Circle___repr p_Circle___repr
  t_Circle___eq : MethAt K A.Circle "__eq__" "Circle.__eq__" s_Circle___eq p_Circle___eq
  t_Circle___and : MethAt K A.Circle "__and__" "Circle.__and__" s_Circle___and p_Circle___and
  t_Circle___or : MethAt K A.Circle "__or__" "Circle.__or__" s_Circle___or p_Circle___or
  e_InvalidName : ErrAt K mg "InvalidName" A.InvalidName "InvalidName.__init__" s_InvalidName___init p_InvalidName___init
  a_InvalidName_value : PySem.W.findIn K (.ref A.InvalidName) "value" = some none
  e_InvalidNumber : ErrAt K mg "InvalidNumber" A.InvalidNumber "InvalidNumber.__init__" s_InvalidNumber___init p_InvalidNumber___init
  a_InvalidNumber_value : PySem.W.findIn K (.ref A.InvalidNumber) "value" = some none
  e_InvalidText : ErrAt K mg "InvalidText" A.InvalidText "InvalidText.__init__" s_InvalidText___init p_InvalidText___init
  a_InvalidText_at : PySem.W.findIn K (.ref A.InvalidText) "at" = some none
  e_InvalidCircle : ErrAt K mg "InvalidCircle" A.InvalidCircle "InvalidCircle.__init__" s_InvalidCircle___init p_InvalidCircle___init
  a_InvalidCircle_at : PySem.W.findIn K (.ref A.InvalidCircle) "at" = some none
  e_InvalidTie : ErrAt K mg "InvalidTie" A.InvalidTie "InvalidTie.__init__" s_InvalidTie___init p_InvalidTie___init
  a_InvalidTie_at : PySem.W.findIn K (.ref A.InvalidTie) "at" = some none
  e_InvalidParting : ErrAt K mg "InvalidParting" A.InvalidParting "InvalidParting.__init__" s_InvalidParting___init p_InvalidParting___init
  a_InvalidParting_value : PySem.W.findIn K (.ref A.InvalidParting) "value" = some none
  e_InvalidCase : ErrAt K mg "InvalidCase" A.InvalidCase "InvalidCase.__init__" s_InvalidCase___init p_InvalidCase___init
  a_InvalidCase_value : PySem.W.findIn K (.ref A.InvalidCase) "value" = some none
  e_TooMany : ErrAt K mg "TooMany" A.TooMany "TooMany.__init__" s_TooMany___init p_TooMany___init
  a_TooMany_what : PySem.W.findIn K (.ref A.TooMany) "what" = some none
  a_TooMany_most : PySem.W.findIn K (.ref A.TooMany) "most" = some none
  x_InvalidName_InvalidName : PySem.W.exmOne K (.ref A.InvalidName) (.ref A.InvalidName) = some true
  x_InvalidCircle_InvalidName : PySem.W.exmOne K (.ref A.InvalidCircle) (.ref A.InvalidName) = some false
  x_InvalidCircle_InvalidNumber : PySem.W.exmOne K (.ref A.InvalidCircle) (.ref A.InvalidNumber) = some false
  x_InvalidCircle_InvalidText : PySem.W.exmOne K (.ref A.InvalidCircle) (.ref A.InvalidText) = some false
  x_InvalidCircle_InvalidCircle : PySem.W.exmOne K (.ref A.InvalidCircle) (.ref A.InvalidCircle) = some true
  x_InvalidNumber_InvalidName : PySem.W.exmOne K (.ref A.InvalidNumber) (.ref A.InvalidName) = some false
  x_InvalidNumber_InvalidNumber : PySem.W.exmOne K (.ref A.InvalidNumber) (.ref A.InvalidNumber) = some true
  x_InvalidTie_InvalidName : PySem.W.exmOne K (.ref A.InvalidTie) (.ref A.InvalidName) = some false
  x_InvalidTie_InvalidNumber : PySem.W.exmOne K (.ref A.InvalidTie) (.ref A.InvalidNumber) = some false
  x_InvalidTie_InvalidText : PySem.W.exmOne K (.ref A.InvalidTie) (.ref A.InvalidText) = some false
  x_InvalidTie_InvalidCircle : PySem.W.exmOne K (.ref A.InvalidTie) (.ref A.InvalidCircle) = some false
  x_InvalidTie_InvalidTie : PySem.W.exmOne K (.ref A.InvalidTie) (.ref A.InvalidTie) = some true
  x_InvalidParting_InvalidName : PySem.W.exmOne K (.ref A.InvalidParting) (.ref A.InvalidName) = some false
  x_InvalidParting_InvalidNumber : PySem.W.exmOne K (.ref A.InvalidParting) (.ref A.InvalidNumber) = some false
  x_InvalidParting_InvalidText : PySem.W.exmOne K (.ref A.InvalidParting) (.ref A.InvalidText) = some false
  x_InvalidParting_InvalidCircle : PySem.W.exmOne K (.ref A.InvalidParting) (.ref A.InvalidCircle) = some false
  x_InvalidParting_InvalidTie : PySem.W.exmOne K (.ref A.InvalidParting) (.ref A.InvalidTie) = some false
  x_InvalidParting_InvalidParting : PySem.W.exmOne K (.ref A.InvalidParting) (.ref A.InvalidParting) = some true
  kc_NoneType : PySem.W.kitOne K (.type "NoneType") (.ref A.Circle) = some false
  kc_bool : PySem.W.kitOne K (.type "bool") (.ref A.Circle) = some false
  kc_int : PySem.W.kitOne K (.type "int") (.ref A.Circle) = some false
  kc_list : PySem.W.kitOne K (.type "list") (.ref A.Circle) = some false
  kc_str : PySem.W.kitOne K (.type "str") (.ref A.Circle) = some false
  kc_tuple : PySem.W.kitOne K (.type "tuple") (.ref A.Circle) = some false
  nb_Circle : PySem.W.findIn K (.ref A.Circle) "__bool__" = some none
  nf_list : PySem.W.notFirst K A.Circle (.type "list") = true
  nf_str : PySem.W.notFirst K A.Circle (.type "str") = true
  nl_Circle : PySem.W.findIn K (.ref A.Circle) "__len__" = some none
  tne : A.tbA ≠ A.tbB
  f_is_name : FnAt K mg "is_name" s_is_name p_is_name
  f_is_number : FnAt K mg "is_number" s_is_number p_is_number
  f_is_parting : FnAt K mg "is_parting" s_is_parting p_is_parting
  f_is_item : FnAt K mg "is_item" s_is_item p_is_item
  f_apart : FnAt K mg "apart" s_apart p_apart
  f_together : FnAt K mg "together" s_together p_together
  f_parting_of : FnAt K mg "parting_of" s_parting_of p_parting_of
  f_is_pair : FnAt K mg "is_pair" s_is_pair p_is_pair
  f_lots_of : FnAt K mg "lots_of" s_lots_of p_lots_of
  f_meet_of : FnAt K mg "meet_of" s_meet_of p_meet_of
  f_join_of : FnAt K mg "join_of" s_join_of p_join_of
  f_is_within : FnAt K mg "is_within" s_is_within p_is_within
  f_check_partings : FnAt K mg "check_partings" s_check_partings p_check_partings
  f_linked : FnAt K mg "linked" s_linked p_linked
  f_by_keys : FnAt K mg "by_keys" s_by_keys p_by_keys
  f_met : FnAt K mg "met" s_met p_met
  f_joined : FnAt K mg "joined" s_joined p_joined
  f_within : FnAt K mg "within" s_within p_within
  f_without_repeats : FnAt K mg "without_repeats" s_without_repeats p_without_repeats
  f_flattened : FnAt K mg "flattened" s_flattened p_flattened
  f_size_of : FnAt K mg "size_of" s_size_of p_size_of
  f_depth_over : FnAt K mg "depth_over" s_depth_over p_depth_over
  f_inner_text : FnAt K mg "inner_text" s_inner_text p_inner_text
  f_text_of : FnAt K mg "text_of" s_text_of p_text_of
  f_eye : FnAt K mg "eye" s_eye p_eye
  f_built : FnAt K mg "built" s_built p_built
  f_law_bag : FnAt K mg "_law_bag" s_law_bag p_law_bag
  f_law_draw : FnAt K mg "_law_draw" s_law_draw p_law_draw
  f_law_of : FnAt K mg "_law_of" s_law_of p_law_of
  f_law_same : FnAt K mg "_law_same" s_law_same p_law_same
  f_law_try : FnAt K mg "_law_try" s_law_try p_law_try
  f_law_why : FnAt K mg "_law_why" s_law_why p_law_why
  f_law_circle : FnAt K mg "_law_circle" s_law_circle p_law_circle
  f_law_odd : FnAt K mg "_law_odd" s_law_odd p_law_odd
  f_law_is_case : FnAt K mg "_law_is_case" s_law_is_case p_law_is_case
  f_law_is_rows : FnAt K mg "_law_is_rows" s_law_is_rows p_law_is_rows
  f_law_alone : FnAt K mg "_law_alone" s_law_alone p_law_alone
  f_law_merged : FnAt K mg "_law_merged" s_law_merged p_law_merged
  f_law_met : FnAt K mg "_law_met" s_law_met p_law_met
  f_law_joined : FnAt K mg "_law_joined" s_law_joined p_law_joined
  f_law_inner : FnAt K mg "_law_inner" s_law_inner p_law_inner
  f_law_group : FnAt K mg "_law_group" s_law_group p_law_group
  f_law_rows : FnAt K mg "_law_rows" s_law_rows p_law_rows
  f_law_couples : FnAt K mg "_law_couples" s_law_couples p_law_couples
  f_law_lattice_so : FnAt K mg "_law_lattice_so" s_law_lattice_so p_law_lattice_so
  f_law_lots_so : FnAt K mg "_law_lots_so" s_law_lots_so p_law_lots_so
  f_law_near_rows : FnAt K mg "_law_near_rows" s_law_near_rows p_law_near_rows
  f_law_judged_so : FnAtC K mg "_law_judged_so" s_law_judged_so p_law_judged_so A.cdA
  f_law_pairs_so : FnAtC K mg "_law_pairs_so" s_law_pairs_so p_law_pairs_so A.cdB
  f_law : FnAt K mg "law" s_law p_law
def TT (A : Adr) : List (Addr × Str) := [(A.tbA, (envOfC "_law_judged_so" (defScope s_law_judged_so) 0 0 .none).qual ++ "<lambda>"), (A.tbB, (envOfC "_law_pairs_so" (defScope s_law_pairs_so) 0 0 .none).qual ++ "<lambda>")]
structure Tbs (K : PySem.W.Frag) (h : Heap) (A : Adr) : Prop where
  tA : h.get? A.tbA = some { cls := .none, data := .fields #[] }
  nA : K.lookup A.tbA = none
  cA : PySem.W.CodeHd h A.cdA A.tbA
  tB : h.get? A.tbB = some { cls := .none, data := .fields #[] }
  nB : K.lookup A.tbB = none
  cB : PySem.W.CodeHd h A.cdB A.tbB
end Eyes

set_option Elab.async false
set_option linter.all false
set_option maxRecDepth 100000
set_option maxHeartbeats 4000000
namespace Eyes
open PySem PySem.Spec PyProof.Rows L2 Evl
local macro_rules | `(tactic| walk_at "v") => `(tactic| refine ⟨_, rfl, ?_⟩)
local macro_rules | `(tactic| walk_at "rd") => `(tactic| first
  | refine ⟨_, rfl, ?_⟩
  | refine ⟨_, _, rfl, rfl, .inr ⟨by decide, by decide⟩, ?_⟩
  | refine ⟨_, _, rfl, rfl, .inl ⟨by decide, by decide⟩, ?_⟩
  | refine ⟨_, _, rfl, rfl, (show (0 : Int) < _ by decide), ?_⟩
  | refine ⟨_, _, rfl, rfl, (show (0 : Int) < _ ∧ _ < (1073741824 : Int) by decide), ?_⟩
  | refine ⟨_, _, rfl, rfl, ?_⟩
  | refine .inl ⟨_, rfl, ?_⟩)
/-! ### the bag of drawn numbers -/
structure BagS (b c : Addr) (ns : List Int) (i r m n : Int) (G H : Hp) : Prop where
  nb : G b = none
  nc : G c = none
  ex : Ex G H
  at_ : H b = some (.lst [.ref c, .int i, .int r, .int m, .int n])
  cells : H c = some (.lst (ns.map V.int))
  ne : c ≠ b
  i0 : 0 ≤ i
  r0 : 0 ≤ r
  m0 : 0 ≤ m
  m1 : m < 2147483648
theorem BagS.set {b c : Addr} {ns : List Int} {i r m n i' r' m' n' : Int} {G H : Hp} (B : BagS b c ns i r m n G H) (h1 : 0 ≤ i') (h2 : 0 ≤ r') (h3 : 0 ≤ m') (h4 : m' < 2147483648) :
    BagS b c ns i' r' m' n' G (upd H b (.lst [.ref c, .int i', .int r', .int m', .int n'])) :=
  ⟨B.nb, B.nc, B.ex.mut B.nb, upd_same, (upd_ne B.ne).trans B.cells, B.ne, h1, h2, h3, h4⟩
def At (b : Addr) (G H : Hp) : Prop := ∃ (c : Addr) (ns : List Int) (i r m n : Int), BagS b c ns i r m n G H
theorem At.nb {b : Addr} {G H : Hp} (h : At b G H) : G b = none := by
  obtain ⟨c, ns, i, r, m, n, B⟩ := h
  exact B.nb
theorem At.ex {b : Addr} {G H : Hp} (h : At b G H) : Ex G H := by
  obtain ⟨c, ns, i, r, m, n, B⟩ := h
  exact B.ex
theorem At.mono {b : Addr} {G H H' : Hp} (h : At b G H) (e : Ex H H') : At b G H' := by
  obtain ⟨c, ns, i, r, m, n, B⟩ := h
  exact ⟨c, ns, i, r, m, n, B.nb, B.nc, B.ex.trans e, e _ _ B.at_, e _ _ B.cells, B.ne, B.i0, B.r0, B.m0, B.m1⟩
theorem At.free {b : Addr} {G H : Hp} (h : At b G H) {p : Addr} (hp : H p = none) : p ≠ b := by
  obtain ⟨c, ns, i, r, m, n, B⟩ := h
  intro e
  rw [e, B.at_] at hp
  cases hp
theorem At.new {b : Addr} {G H : Hp} (h : At b G H) {p : Addr} {o : HO} (hp : H p = none) : At b (upd G p o) (upd H p o) := by
  have hf := h.free hp
  have hc : ∀ c ns i r m n, BagS b c ns i r m n G H → p ≠ c := fun c ns i r m n B e => by
    rw [e, B.cells] at hp
    cases hp
  obtain ⟨c, ns, i, r, m, n, B0⟩ := h
  have B : BagS b c ns i r m n G (upd H p o) := ⟨B0.nb, B0.nc, B0.ex.trans (Ex.new hp), Ex.new hp _ _ B0.at_, Ex.new hp _ _ B0.cells, B0.ne, B0.i0, B0.r0, B0.m0, B0.m1⟩
  refine ⟨c, ns, i, r, m, n, (upd_ne hf.symm).trans B.nb, (upd_ne (hc _ _ _ _ _ _ B0).symm).trans B.nc, fun a u e => ?_, B.at_, B.cells, B.ne, B.i0, B.r0, B.m0, B.m1⟩
  by_cases ha : a = p
  · subst ha
    rw [upd_same] at e ⊢
    exact e
  · rw [upd_ne ha] at e
    exact B.ex a u e
theorem At.weak {b : Addr} {G G1 H : Hp} (h : At b G1 H) (e : Ex G G1) : At b G H := by
  obtain ⟨c, ns, i, r, m, n, B⟩ := h
  exact ⟨c, ns, i, r, m, n, fresh_back e B.nb, fresh_back e B.nc, e.trans B.ex, B.at_, B.cells, B.ne, B.i0, B.r0, B.m0, B.m1⟩
theorem At.nh {b : Addr} {G H : Hp} (h : At b G H) {p : Addr} (hp : H p = none) : G p = none := fresh_back h.ex hp
theorem At.put {b : Addr} {G H : Hp} {p : Addr} {o o' : HO} (h : At b (upd G p o) H) : At b (upd G p o') (upd H p o') := by
  obtain ⟨c, ns, i, r, m, n, B⟩ := h
  have hb : b ≠ p := fun e => by
    have := B.nb
    rw [e, upd_same] at this
    cases this
  have hc : c ≠ p := fun e => by
    have := B.nc
    rw [e, upd_same] at this
    cases this
  refine ⟨c, ns, i, r, m, n, ?_, ?_, fun a u e => ?_, (upd_ne hb).trans B.at_, (upd_ne hc).trans B.cells, B.ne, B.i0, B.r0, B.m0, B.m1⟩
  · have := B.nb
    rw [upd_ne hb] at this ⊢
    exact this
  · have := B.nc
    rw [upd_ne hc] at this ⊢
    exact this
  · by_cases ha : a = p
    · subst ha
      rw [upd_same] at e ⊢
      exact e
    · rw [upd_ne ha] at e ⊢
      exact B.ex a u (by rw [upd_ne ha]; exact e)
theorem cut_to (xs : List V) (k : Nat) : cutV xs none (some (k : Int)) = xs.take k := by
  unfold cutV
  rw [HT.sIx_none, HT.sIx_nat, List.drop_zero, Nat.sub_zero]
  rcases Nat.le_total k xs.length with h | h
  · rw [Nat.min_eq_left h]
  · rw [Nat.min_eq_right h, List.take_of_length_le h, List.take_of_length_le (Nat.le_refl _)]
theorem at_of' {α : Type} {xs : List α} {z : Int} {v : α} (e : 0 ≤ z) (h : xs[z.toNat]? = some v) : atI xs z = some v := by
  have e2 : z = (z.toNat : Int) := by omega
  rw [e2]
  exact atI_nat h
def spBag (K : PySem.W.Frag) : Sp := fun vs H Q _ => ∃ (a : Addr) (ns : List Int), vs = [.ref a] ∧ SqL K H a (ns.map V.int) ∧ ∀ b H', H b = none → At b H H' → Q (.ref b) H'
def spDraw : Sp := fun vs H Q _ => ∃ (b : Addr) (z : Int) (G : Hp), vs = [.ref b, .int z] ∧ At b G H ∧ 0 < z ∧ z < 1073741824 ∧ ∀ d H', 0 ≤ d → d < z → At b G H' → Q (.int d) H'
section
variable {P : Program} {w : World} {K : PySem.W.Frag} {mg : Str → Option Value} {base : Heap}
theorem ok_law_bag {AA : Adr} (T : Txt K mg AA) : Pr P w K mg base "_law_bag" s_law_bag p_law_bag 1 (spBag K) := by
  refine pr_mk T.f_law_bag sc_law_bag (fun vs H Q E h => ?_) (fun f cdv A outer s H vs Q E hr h => ?_)
  · obtain ⟨a, ns, rfl, _⟩ := h
    rfl
  · obtain ⟨a, ns, rfl, hS, q⟩ := h
    refine ⟨_, (pss_cons (ps_set (i := 1) sc_law_bag.nd rfl (.inl rfl) pe_int)
      (pss_cons (ps_for PassesOwn.never rfl (pi_list (pe_slice sl_list (pv 0) po_none (po_some pe_int))) (pg_name (i := 2) sc_law_bag.nd rfl (.inl rfl))
      (pss_one (ps_set (i := 1) sc_law_bag.nd rfl (.inl rfl) (pe_op op_mod (pe_callTy call_int1 (by rfl) T.n_int PyProof.Rows.boot_int (pa_cons (pe_op op_add (pe_op op_add (pe_op op_mul (pv 1) pe_int) (pe_op op_mul (pe_op op_mod (pe_callTy call_int1 (by rfl) T.n_int PyProof.Rows.boot_int (pa_cons (pv 2) pa_nil)) pe_int) pe_int)) pe_int) pa_nil)) pe_int))))
      (pss_one (ps_ret (pe_lst (pa_cons (pe_callTy call_list_of (by rfl) T.n_list PyProof.Rows.boot_list (pa_cons (pe_slice sl_list (pv 0) po_none (po_some pe_int)) pa_nil)) (pa_cons pe_int (pa_cons pe_int (pa_cons (pv 1) (pa_cons pe_int pa_nil)))))))))), ?_⟩
    -- mixed = 43001
    -- for piece in script[:63]
    refine ⟨_, rfl, 63, rfl, a, _, rfl, hS, fun p np => ?_⟩
    have hc : cutV (ns.map V.int) none (some 63) = (ns.take 63).map V.int := (cut_to _ 63).trans List.map_take.symm
    rw [hc]
    have e1 : Ex H (upd H p (.lst ((ns.take 63).map V.int))) := Ex.new np
    refine ⟨p, rfl, ⟨_, sq_of upd_same⟩, for_list (xs := (ns.take 63).map V.int) (fun _ σ H' => ∃ (m : Int) (y : Option V), σ = [some (.ref a), some (.int m), y] ∧ 0 ≤ m ∧ m < 2147483587 ∧ Ex (upd H p (.lst ((ns.take 63).map V.int))) H') ⟨43001, none, rfl, by omega, by omega, Ex.refl _⟩ (fun i σ H' _ hp => ?_) (fun i x σ H' hx hp => ?_) (fun σ H' hp => ?_)⟩
    · obtain ⟨m, y, rfl, _, _, e2⟩ := hp
      exact sq_of (e2 _ _ upd_same)
    · obtain ⟨m, y, rfl, h0, h1, e2⟩ := hp
      rw [List.getElem?_map] at hx
      obtain ⟨k, hk, rfl⟩ := Option.map_eq_some_iff.mp hx
      -- the sum
      repeat walk_at "rd"
      exact ⟨_, _, rfl, Int.emod_nonneg _ (by decide), Int.emod_lt_of_pos _ (by decide), e2⟩
    · obtain ⟨m, y, rfl, h0, h1, e2⟩ := hp
      -- return [list(script[:63]), 0, 0, mixed, 0]
      have hS1 : SqL K H' a (ns.map V.int) := ex_l (e1.trans e2) hS
      refine ⟨_, rfl, 63, rfl, a, _, rfl, hS1, fun p2 np2 => ?_⟩
      rw [hc]
      refine ⟨p2, _, rfl, .inl (sq_of upd_same), fun p3 np3 => ?_⟩
      refine ⟨_, rfl, by show 5 ≤ sizeLine; decide, fun b nb => ?_⟩
      have ex : Ex H _ := (((e1.trans e2).trans (Ex.new np2)).trans (Ex.new np3)).trans (Ex.new (o := HO.lst [.ref p3, .int 0, .int 0, .int m, .int 0]) nb)
      refine q b _ (fresh_back (((e1.trans e2).trans (Ex.new np2)).trans (Ex.new np3)) nb) ⟨p3, ns.take 63, 0, 0, m, 0, fresh_back (((e1.trans e2).trans (Ex.new np2)).trans (Ex.new np3)) nb, fresh_back ((e1.trans e2).trans (Ex.new np2)) np3, ex, upd_same, ?_, ?_, by omega, by omega, by omega, by omega⟩
      · have hb : p3 ≠ b := ne_of_none upd_same nb
        rw [upd_ne hb, upd_same]
      · exact ne_of_none upd_same nb
theorem ok_law_draw {AA : Adr} (T : Txt K mg AA) : Pr P w K mg base "_law_draw" s_law_draw p_law_draw 1 spDraw := by
  refine pr_mk T.f_law_draw sc_law_draw (fun vs H Q E h => ?_) (fun f cdv A outer s H vs Q E hr h => ?_)
  · obtain ⟨b, z, G, rfl, _⟩ := h
    rfl
  · obtain ⟨b, z, G, rfl, ⟨c, ns, i, r, m, n, B⟩, hz0, hz1, q⟩ := h
    refine ⟨_, (pss_cons (ps_asg (pe_op op_add (pe_ix (ix_listK (K := K) rfl) (pv 0) pe_int (fun _ _ => rfl)) pe_int) (pg_sub (pv 0) pe_int set_list))
      (Evl.pss_cut (ps_if (PW.pt (pw_and (pt_cmpR op_eq (pe_ix (ix_listK (K := K) rfl) (pv 0) pe_int (fun _ _ => rfl)) pe_int (nomark _)) (pw_and1 (pt_cmpR op_lt (pe_ix (ix_listK (K := K) rfl) (pv 0) pe_int (fun _ _ => rfl)) (pe_callB (call_len_seqK (K := K) rfl) (by rfl) T.n_len PySem.boot_len (pa_cons (pe_ix (ix_listK (K := K) rfl) (pv 0) pe_int (fun _ _ => rfl)) pa_nil)) (nomark _)))))
      (pss_cons (ps_set (i := 2) sc_law_draw.nd rfl (.inl rfl) (pe_callB call_abs (by rfl) T.n_abs PyProof.Rows.boot_abs (pa_cons (pe_callTy call_int1 (by rfl) T.n_int PyProof.Rows.boot_int (pa_cons (pe_ix (ix_listK (K := K) rfl) (pe_ix (ix_listK (K := K) rfl) (pv 0) pe_int (fun _ _ => rfl)) (pe_ix (ix_listK (K := K) rfl) (pv 0) pe_int (fun _ _ => rfl)) (fun _ _ => rfl)) pa_nil)) pa_nil)))
      (pss_cons (ps_asg (pe_op op_add (pe_ix (ix_listK (K := K) rfl) (pv 0) pe_int (fun _ _ => rfl)) pe_int) (pg_sub (pv 0) pe_int set_list))
      (pss_one (ps_if (pt_cmpR op_ge (pv 2) (pe_op op_pow pe_int pe_int) (nomark _))
      (pss_one (ps_asg (pv 2) (pg_sub (pv 0) pe_int set_list)))
      (pss_one (ps_asg (pe_op op_mod (pe_callTy call_int1 (by rfl) T.n_int PyProof.Rows.boot_int (pa_cons (pe_op op_add (pe_op op_add (pe_op op_mul (pe_ix (ix_listK (K := K) rfl) (pv 0) pe_int (fun _ _ => rfl)) pe_int) (pe_op op_mul (pe_op op_mod (pv 2) pe_int) pe_int)) pe_int) pa_nil)) pe_int) (pg_sub (pv 0) pe_int set_list)))))))
      pss_nil)
      (pss_cons (ps_if (pt_cmpR op_gt (pe_ix (ix_listK (K := K) rfl) (pv 0) pe_int (fun _ _ => rfl)) pe_int (nomark _))
      (pss_cons (ps_set (i := 3) sc_law_draw.nd rfl (.inl rfl) (pe_op op_mod (pe_callTy call_int1 (by rfl) T.n_int PyProof.Rows.boot_int (pa_cons (pe_ix (ix_listK (K := K) rfl) (pv 0) pe_int (fun _ _ => rfl)) pa_nil)) (pv 1)))
      (pss_cons (ps_asg (pe_op op_fdiv (pe_ix (ix_listK (K := K) rfl) (pv 0) pe_int (fun _ _ => rfl)) (pv 1)) (pg_sub (pv 0) pe_int set_list))
      (pss_one (ps_ret (pv 3)))))
      pss_nil)
      (pss_cons (ps_set (i := 4) sc_law_draw.nd rfl (.inl rfl) (pe_callTy call_int1 (by rfl) T.n_int PyProof.Rows.boot_int (pa_cons (pe_ix (ix_listK (K := K) rfl) (pv 0) pe_int (fun _ _ => rfl)) pa_nil)))
      (pss_cons (ps_asg (pe_op op_mod (pe_callTy call_int1 (by rfl) T.n_int PyProof.Rows.boot_int (pa_cons (pe_op op_add (pe_op op_add (pe_op op_add (pe_op op_mul (pe_op op_mul (pv 4) (pv 4)) pe_int) (pe_op op_mul (pv 4) pe_int)) (pe_op op_mul (pe_ix (ix_listK (K := K) rfl) (pv 0) pe_int (fun _ _ => rfl)) pe_int)) pe_int) pa_nil)) pe_int) (pg_sub (pv 0) pe_int set_list))
      (pss_one (ps_ret (pe_op op_mod (pe_callTy call_int1 (by rfl) T.n_int PyProof.Rows.boot_int (pa_cons (pe_op op_add (pe_op op_fdiv (pe_ix (ix_listK (K := K) rfl) (pv 0) pe_int (fun _ _ => rfl)) pe_int) (pe_op op_mul (pe_op op_mod (pe_callTy call_int1 (by rfl) T.n_int PyProof.Rows.boot_int (pa_cons (pe_ix (ix_listK (K := K) rfl) (pv 0) pe_int (fun _ _ => rfl)) pa_nil)) pe_int) pe_int)) pa_nil)) (pv 1))))))))), ?_⟩
    -- bag[4] = bag[4] + 1
    refine ⟨_, rfl, b, _, 4, _, rfl, rfl, sq_of B.at_, rfl, n, 1, rfl, rfl, _, rfl, b, _, 4, 4, rfl, rfl, B.at_, rfl, ?_⟩
    have B1 := B.set (n' := n + 1) B.i0 B.r0 B.m0 B.m1
    generalize hH1 : upd H b _ = H1
    rw [show ([V.ref c, .int i, .int r, .int m, .int n].set 4 (.int (n + 1))) = [V.ref c, .int i, .int r, .int m, .int (n + 1)] from rfl] at hH1
    rw [hH1] at B1
    clear hH1 B
    generalize n + 1 = n at B1
    -- the first if: Mid
    refine ⟨fun σ H' => ∃ (y2 y3 y4 : Option V), σ = [some (.ref b), some (.int z), y2, y3, y4] ∧ At b G H', ?_, fun σ H' hM => ?_⟩
    · refine ⟨_, rfl, b, _, 2, _, rfl, rfl, sq_of B1.at_, rfl, rfl, _, rfl, ite2 (fun hr0 => ?_) (fun hr0 => ?_)⟩
      · refine ⟨_, rfl, b, _, 1, _, rfl, rfl, sq_of B1.at_, rfl, _, rfl, b, _, 0, _, rfl, rfl, sq_of B1.at_, rfl, c, _, rfl, .inl (sq_of B1.cells), i, _, rfl, rfl, _, rfl, ite2 (fun hi => ?_) (fun hi => ?_)⟩
        · have hi : i < ((ns.map V.int).length : Int) := of_decide_eq_true hi
          have hi2 : i.toNat < ns.length := by
            rw [List.length_map] at hi
            have := B1.i0
            omega
          have g : (ns.map V.int)[i.toNat]? = some (.int ns[i.toNat]) := by
            rw [List.getElem?_map, List.getElem?_eq_getElem hi2]
            rfl
          have g2 : atI (ns.map V.int) i = some (.int ns[i.toNat]) := at_of (j := i.toNat) (by have := B1.i0; omega) g
          generalize ns[i.toNat] = x at g2
          -- piece = abs(int(bag[0][bag[1]]))
          refine ⟨_, rfl, b, _, 0, _, rfl, rfl, sq_of B1.at_, rfl, _, rfl, b, _, 1, _, rfl, rfl, sq_of B1.at_, rfl, c, _, i, _, rfl, rfl, sq_of B1.cells, g2, .inl ⟨x, rfl, x, rfl, ?_⟩⟩
          generalize hy : (if x < 0 then -x else x) = y
          have hy0 : 0 ≤ y := by
            rw [← hy]
            split <;> omega
          -- bag[1] = bag[1] + 1
          refine ⟨_, rfl, b, _, 1, _, rfl, rfl, sq_of B1.at_, rfl, i, 1, rfl, rfl, _, rfl, b, _, 1, 1, rfl, rfl, B1.at_, rfl, ?_⟩
          have B2 := B1.set (i' := i + 1) (n' := n) (by have := B1.i0; omega) B1.r0 B1.m0 B1.m1
          -- if piece >= 10 ** 18
          refine ⟨_, rfl, 10, 18, rfl, rfl, ⟨by decide, by decide, by decide⟩, _, _, rfl, rfl, _, rfl, ite2 (fun hp => ?_) (fun hp => ?_)⟩
          · refine ⟨_, rfl, _, rfl, b, _, 2, 2, rfl, rfl, B2.at_, rfl, _, _, _, rfl, _, _, _, _, _, _, B2.set (r' := y) (n' := n) B2.i0 hy0 B2.m0 B2.m1⟩
          · refine ⟨_, rfl, b, _, 3, _, rfl, rfl, sq_of B2.at_, rfl, m, 40014, rfl, rfl, .inr ⟨by decide, by decide⟩, _, rfl, ?_⟩
            repeat walk_at "rd"
            refine ⟨b, _, 3, 3, rfl, rfl, B2.at_, rfl, _, _, _, rfl, _, _, _, _, _, _, B2.set (n' := n) (m' := (m * 40014 + y % 999979 * 613 + 29) % 2147483579) B2.i0 B2.r0 (Int.emod_nonneg _ (by decide)) (Int.lt_trans (Int.emod_lt_of_pos _ (by decide)) (by decide))⟩
        · exact ⟨_, _, _, rfl, c, ns, i, r, m, n, B1⟩
      · exact ⟨_, _, _, rfl, c, ns, i, r, m, n, B1⟩
    · obtain ⟨y2, y3, y4, rfl, c, ns, i, r, m, n, B⟩ := hM
      -- if bag[2] > 0
      refine ⟨_, rfl, b, _, 2, _, rfl, rfl, sq_of B.at_, rfl, r, 0, rfl, rfl, _, rfl, ite2 (fun hr1 => ?_) (fun hr1 => ?_)⟩
      · have hr1 : 0 < r := of_decide_eq_true hr1
        refine ⟨_, rfl, b, _, 2, _, rfl, rfl, sq_of B.at_, rfl, .inl ⟨r, rfl, _, rfl, r, z, rfl, rfl, hz0, ?_⟩⟩
        refine ⟨_, rfl, b, _, 2, _, rfl, rfl, sq_of B.at_, rfl, _, rfl, r, z, rfl, rfl, ⟨hz0, hz1⟩, _, rfl, b, _, 2, 2, rfl, rfl, B.at_, rfl, _, rfl, ?_⟩
        exact q _ _ (Int.emod_nonneg _ (by omega)) (Int.emod_lt_of_pos _ hz0) ⟨_, _, _, _, _, _, B.set (r' := r / z) (n' := n) B.i0 (Int.ediv_nonneg B.r0 (by omega)) B.m0 B.m1⟩
      · refine ⟨_, rfl, b, _, 3, _, rfl, rfl, sq_of B.at_, rfl, .inl ⟨m, rfl, ?_⟩⟩
        have hm : -(2 ^ 64) < m ∧ m < 2 ^ 64 := ⟨Int.lt_of_lt_of_le (by decide) B.m0, Int.lt_trans B.m1 (by decide)⟩
        refine ⟨_, rfl, _, rfl, m, m, rfl, rfl, .inl hm, _, _, rfl, rfl, .inr ⟨by decide, by decide⟩, _, rfl, _, _, rfl, rfl, .inr ⟨by decide, by decide⟩, _, _, rfl, rfl, _, rfl, b, _, 4, _, rfl, rfl, sq_of B.at_, rfl, _, _, rfl, rfl, .inr ⟨by decide, by decide⟩, _, _, rfl, rfl, _, _, rfl, rfl, .inl ⟨_, rfl, _, _, rfl, rfl, (show (0 : Int) < _ by decide), _, rfl, b, _, 3, 3, rfl, rfl, B.at_, rfl, ?_⟩⟩
        have B2 := B.set (n' := n) (m' := (m * m * 31 + m * 52774 + n * 130363 + 70001) % 2147483629) B.i0 B.r0 (Int.emod_nonneg _ (by decide)) (Int.lt_trans (Int.emod_lt_of_pos _ (by decide)) (by decide))
        refine ⟨_, rfl, b, _, 3, _, rfl, rfl, sq_of B2.at_, rfl, _, 71, rfl, rfl, ⟨by decide, by decide⟩, _, rfl, b, _, 3, _, rfl, rfl, sq_of B2.at_, rfl, .inl ⟨_, rfl, _, 9001, rfl, rfl, (show (0 : Int) < _ by decide), _, _, rfl, rfl, .inr ⟨by decide, by decide⟩, _, _, rfl, rfl, .inl ⟨_, rfl, _, rfl, _, _, rfl, rfl, hz0, ?_⟩⟩⟩
        exact q _ _ (Int.emod_nonneg _ (by omega)) (Int.emod_lt_of_pos _ hz0) ⟨_, _, _, _, _, _, B2⟩
def SeqV (K : PySem.W.Frag) (H : Hp) (x : V) (items : List V) : Prop :=
  (∃ p, x = .ref p ∧ SqL K H p items) ∨ (∃ p, x = .ref p ∧ SqT K H p items) ∨ ∃ z : Str, x = .str z ∧ z.length ≤ sizeLine ∧ items = z.cps.toList.map fun c => V.str ⟨#[c]⟩
theorem SeqV.mono {H H' : Hp} {x : V} {items : List V} (h : SeqV K H x items) (e : Ex H H') : SeqV K H' x items := by
  rcases h with ⟨p, hx, h⟩ | ⟨p, hx, h⟩ | h
  · exact .inl ⟨p, hx, ex_l e h⟩
  · exact .inr (.inl ⟨p, hx, ex_t e h⟩)
  · exact .inr (.inr h)
theorem SeqV.len {H : Hp} {x : V} {items : List V} (h : SeqV K H x items) : LenV K x H items.length := by
  rcases h with ⟨p, rfl, h⟩ | ⟨p, rfl, h⟩ | ⟨z, rfl, hz, e⟩
  · exact .inl ⟨_, h, rfl⟩
  · exact .inr ⟨_, h, rfl⟩
  · refine ⟨hz, ?_⟩
    rw [e, List.length_map, Array.length_toList]
    rfl
theorem SeqV.item {H : Hp} {x : V} {items : List V} {d : Int} {v : V} {Q : VK} (h : SeqV K H x items) (hd : 0 ≤ d) (hv : items[d.toNat]? = some v) (q : Q v H) : rIx K x (.int d) H Q := by
  rcases h with ⟨p, rfl, h⟩ | ⟨p, rfl, h⟩ | ⟨z, rfl, hz, e⟩
  · exact .inl ⟨p, _, d, v, rfl, rfl, h, at_of (j := d.toNat) (by omega) hv, q⟩
  · exact .inr (.inl ⟨p, _, d, v, rfl, rfl, h, at_of (j := d.toNat) (by omega) hv, q⟩)
  · subst e
    rw [List.getElem?_map] at hv
    obtain ⟨c, hc, rfl⟩ := Option.map_eq_some_iff.mp hv
    exact .inr (.inr ⟨z, d, c, rfl, rfl, hz, at_of' (by omega) hc, q⟩)
def spOf (K : PySem.W.Frag) : Sp := fun vs H Q _ => ∃ (b : Addr) (x : V) (G : Hp) (items : List V), vs = [.ref b, x] ∧ At b G H ∧ SeqV K G x items ∧ 0 < items.length ∧ items.length < 1073741824 ∧ ∀ v H', v ∈ items → At b G H' → Q v H'
theorem ok_law_of {AA : Adr} (T : Txt K mg AA) : Pr P w K mg base "_law_of" s_law_of p_law_of 2 (spOf K) := by
  refine pr_mk T.f_law_of sc_law_of (fun vs H Q E h => ?_) (fun f cdv A outer s H vs Q E hr h => ?_)
  · obtain ⟨b, x, G, items, rfl, _⟩ := h
    rfl
  · obtain ⟨b, x, G, items, rfl, hA, hx, h0, h1, q⟩ := h
    refine ⟨_, (pss_one (ps_ret (pe_ix (ix_seqK (K := K) rfl) (pv 1) (pcall (ok_law_draw T) hr (pa_cons (pv 0) (pa_cons (pe_callB call_len (by rfl) T.n_len PySem.boot_len (pa_cons (pv 1) pa_nil)) pa_nil))) (fun _ _ => rfl)))), ?_⟩
    refine ⟨_, rfl, _, rfl, _, rfl, x, _, rfl, (hx.mono hA.ex).len, b, _, G, rfl, hA, by omega, by omega, fun d H' d0 d1 hA' => ?_⟩
    have hd : d.toNat < items.length := by omega
    exact (hx.mono hA'.ex).item d0 (List.getElem?_eq_getElem hd) (q _ _ (List.getElem_mem hd) hA')
end
end Eyes

set_option Elab.async false
set_option linter.all false
set_option maxRecDepth 100000
set_option maxHeartbeats 4000000
namespace Eyes
open PySem PySem.Spec PyProof.Rows L2 Evl
/-! ### data in the heap -/
mutual
inductive Rep (H : Hp) : V → PyData → Prop
  | non : Rep H .non .none
  | bl (b : Bool) : Rep H (.bl b) (.bool b)
  | int (i : Int) : Rep H (.int i) (.int i)
  | str (x : Str) : Rep H (.str x) (.str x)
  | lst {a : Addr} {xs : List V} {ds : List PyData} : H a = some (.lst xs) → Reps H xs ds → Rep H (.ref a) (.list ds)
  | tup {a : Addr} {xs : List V} {ds : List PyData} : H a = some (.tup xs) → Reps H xs ds → Rep H (.ref a) (.tuple ds)
inductive Reps (H : Hp) : List V → List PyData → Prop
  | nil : Reps H [] []
  | cons {v : V} {vs : List V} {d : PyData} {ds : List PyData} : Rep H v d → Reps H vs ds → Reps H (v :: vs) (d :: ds)
end
mutual
theorem Rep.mono {H H' : Hp} (e : Ex H H') : ∀ {v : V} {d : PyData}, Rep H v d → Rep H' v d
  | _, _, .non => .non
  | _, _, .bl b => .bl b
  | _, _, .int i => .int i
  | _, _, .str x => .str x
  | _, _, .lst h r => .lst (e _ _ h) (Reps.mono e r)
  | _, _, .tup h r => .tup (e _ _ h) (Reps.mono e r)
theorem Reps.mono {H H' : Hp} (e : Ex H H') : ∀ {v : List V} {d : List PyData}, Reps H v d → Reps H' v d
  | _, _, .nil => .nil
  | _, _, .cons h r => .cons (Rep.mono e h) (Reps.mono e r)
end
theorem Reps.length {H : Hp} : ∀ {xs : List V} {ds : List PyData}, Reps H xs ds → xs.length = ds.length
  | _, _, .nil => rfl
  | _, _, .cons _ r => congrArg Nat.succ (Reps.length r)
theorem Reps.get {H : Hp} : ∀ {xs : List V} {ds : List PyData} {i : Nat} {x : V}, Reps H xs ds → xs[i]? = some x → ∃ d, ds[i]? = some d ∧ Rep H x d
  | _, _, _, _, .nil, e => by simp at e
  | _, _, 0, _, .cons h _, e => by
    simp at e
    subst e
    exact ⟨_, rfl, h⟩
  | _, _, i + 1, x, .cons _ r, e => by
    obtain ⟨d, h1, h2⟩ := Reps.get (i := i) (x := x) r (by simpa using e)
    exact ⟨d, by simpa using h1, h2⟩
theorem Reps.of_bl {H : Hp} : ∀ bs : List Bool, Reps H (bs.map V.bl) (bs.map PyData.bool)
  | [] => .nil
  | b :: bs => .cons (.bl b) (Reps.of_bl bs)
theorem depth_get : ∀ {ds : List PyData} {i : Nat} {d : PyData}, ds[i]? = some d → d.depth ≤ PyData.depthAll ds
  | [], _, _, e => by simp at e
  | x :: xs, 0, _, e => by
    simp at e
    subst e
    exact Nat.le_max_left _ _
  | x :: xs, i + 1, d, e => Nat.le_trans (depth_get (ds := xs) (i := i) (by simpa using e)) (Nat.le_max_right _ _)
mutual
def wid : PyData → Nat
  | .list xs => max xs.length (widAll xs)
  | .tuple xs => max xs.length (widAll xs)
  | .dict _ => 0
  | .none => 0
  | .bool _ => 0
  | .int _ => 0
  | .str _ => 0
def widAll : List PyData → Nat
  | [] => 0
  | x :: xs => max (wid x) (widAll xs)
end
theorem wid_get : ∀ {ds : List PyData} {i : Nat} {d : PyData}, ds[i]? = some d → wid d ≤ widAll ds
  | [], _, _, e => by simp at e
  | x :: xs, 0, _, e => by
    simp at e
    subst e
    exact Nat.le_max_left _ _
  | x :: xs, i + 1, d, e => Nat.le_trans (wid_get (ds := xs) (i := i) (by simpa using e)) (Nat.le_max_right _ _)
def tyD : PyData → String
  | .none => "NoneType" | .bool _ => "bool" | .int _ => "int" | .str _ => "str" | .list _ => "list" | .tuple _ => "tuple" | .dict _ => "dict"
theorem Rep.ty {K : PySem.W.Frag} {H : Hp} {v : V} {d : PyData} (h : Rep H v d) : TyX K H v (.type (tyD d)) := by
  cases h with
  | non => exact .base .non
  | bl b => exact .base (.bl b)
  | int b => exact .base (.int b)
  | str b => exact .base (.str b)
  | lst h _ => exact .base (.lst h)
  | tup h _ => exact .base (.tup h)
theorem kit_t (K : PySem.W.Frag) {a b : String} (h : (kitB a b).isSome = true) : ∃ r, PySem.W.kitOne K (.type a) (.type b) = some r := by
  obtain ⟨r, e⟩ := Option.isSome_iff_exists.mp h
  exact ⟨r, kit_ty e⟩
theorem kit_list (K : PySem.W.Frag) : ∀ d : PyData, ∃ b, PySem.W.kitOne K (.type (tyD d)) (.type "list") = some b
  | .none => kit_t K (a := "NoneType") (by decide +kernel) | .bool _ => kit_t K (a := "bool") (by decide +kernel) | .int _ => kit_t K (a := "int") (by decide +kernel) | .str _ => kit_t K (a := "str") (by decide +kernel)
  | .list _ => kit_t K (a := "list") (by decide +kernel) | .tuple _ => kit_t K (a := "tuple") (by decide +kernel) | .dict _ => kit_t K (a := "dict") (by decide +kernel)
theorem kit_tuple (K : PySem.W.Frag) : ∀ d : PyData, ∃ b, PySem.W.kitOne K (.type (tyD d)) (.type "tuple") = some b
  | .none => kit_t K (a := "NoneType") (by decide +kernel) | .bool _ => kit_t K (a := "bool") (by decide +kernel) | .int _ => kit_t K (a := "int") (by decide +kernel) | .str _ => kit_t K (a := "str") (by decide +kernel)
  | .list _ => kit_t K (a := "list") (by decide +kernel) | .tuple _ => kit_t K (a := "tuple") (by decide +kernel) | .dict _ => kit_t K (a := "dict") (by decide +kernel)
theorem kit_bool (K : PySem.W.Frag) : ∀ d : PyData, ∃ b, PySem.W.kitOne K (.type (tyD d)) (.type "bool") = some b
  | .none => kit_t K (a := "NoneType") (by decide +kernel) | .bool _ => kit_t K (a := "bool") (by decide +kernel) | .int _ => kit_t K (a := "int") (by decide +kernel) | .str _ => kit_t K (a := "str") (by decide +kernel)
  | .list _ => kit_t K (a := "list") (by decide +kernel) | .tuple _ => kit_t K (a := "tuple") (by decide +kernel) | .dict _ => kit_t K (a := "dict") (by decide +kernel)
theorem kit_int (K : PySem.W.Frag) : ∀ d : PyData, ∃ b, PySem.W.kitOne K (.type (tyD d)) (.type "int") = some b
  | .none => kit_t K (a := "NoneType") (by decide +kernel) | .bool _ => kit_t K (a := "bool") (by decide +kernel) | .int _ => kit_t K (a := "int") (by decide +kernel) | .str _ => kit_t K (a := "str") (by decide +kernel)
  | .list _ => kit_t K (a := "list") (by decide +kernel) | .tuple _ => kit_t K (a := "tuple") (by decide +kernel) | .dict _ => kit_t K (a := "dict") (by decide +kernel)
theorem kit_str (K : PySem.W.Frag) : ∀ d : PyData, ∃ b, PySem.W.kitOne K (.type (tyD d)) (.type "str") = some b
  | .none => kit_t K (a := "NoneType") (by decide +kernel) | .bool _ => kit_t K (a := "bool") (by decide +kernel) | .int _ => kit_t K (a := "int") (by decide +kernel) | .str _ => kit_t K (a := "str") (by decide +kernel)
  | .list _ => kit_t K (a := "list") (by decide +kernel) | .tuple _ => kit_t K (a := "tuple") (by decide +kernel) | .dict _ => kit_t K (a := "dict") (by decide +kernel)
theorem kit_scal (K : PySem.W.Frag) {a : String} (h1 : kitB a "list" = some false) (h2 : kitB a "tuple" = some false) : PySem.W.kitAny K (.type a) [.type "list", .type "tuple"] = some false :=
  kitAny_cons (b := false) (kit_ty h1) (fun _ => kitAny_cons (b := false) (kit_ty h2) (fun _ => kitAny_nil) (fun z => nomatch z)) (fun z => nomatch z)
def seqD : PyData → Bool
  | .list _ => true | .tuple _ => true | _ => false
theorem kit_seq (K : PySem.W.Frag) : ∀ d : PyData, PySem.W.kitAny K (.type (tyD d)) [.type "list", .type "tuple"] = some (seqD d)
  | .none => kit_scal K (a := "NoneType") (by decide +kernel) (by decide +kernel) | .bool _ => kit_scal K (a := "bool") (by decide +kernel) (by decide +kernel)
  | .int _ => kit_scal K (a := "int") (by decide +kernel) (by decide +kernel) | .str _ => kit_scal K (a := "str") (by decide +kernel) (by decide +kernel) | .dict _ => kit_scal K (a := "dict") (by decide +kernel) (by decide +kernel)
  | .list _ => kitAny_cons (b := true) (kit_ty (a := "list") (by decide +kernel)) (fun z => nomatch z) (fun _ => rfl)
  | .tuple _ => kitAny_cons (b := false) (kit_ty (a := "tuple") (by decide +kernel)) (fun _ => kitAny_cons (b := true) (kit_ty (a := "tuple") (by decide +kernel)) (fun z => nomatch z) (fun _ => rfl)) (fun z => nomatch z)
theorem walk_zipT {K : PySem.W.Frag} {a b : Addr} {xs ys : List V} {n : Nat} (hn : n = min xs.length ys.length) : Walk (RZ.ItzT K a b) n (fun H => SqT K H a xs ∧ SqT K H b ys) (YPair (fun i => xs[i]?) (fun i => ys[i]?)) := by
  subst hn
  refine ⟨fun i _ hi q => ?_, fun _ q => ⟨xs, ys, q.1, q.2, by omega⟩, fun i H v H' _ q y => ?_⟩
  · have h1 : i < xs.length := by omega
    have h2 : i < ys.length := by omega
    exact ⟨xs, ys, xs[i], ys[i], q.1, q.2, by simp [h1], by simp [h2]⟩
  · obtain ⟨T, x, z, h1, h2, h3, h4, h5⟩ := y
    exact ⟨T, x, z, h1, h2, h3, h4 xs q.1, h5 ys q.2⟩
theorem iteDT {c A B : Prop} [Decidable c] (hc : c) (h : A) : if decide c = true then A else B := by
  rw [decide_eq_true hc, if_pos rfl]
  exact h
def spSame (n : Nat) : Sp := fun vs H Q _ => ∃ (x y : V) (d : PyData), vs = [x, y] ∧ Rep H x d ∧ Rep H y d ∧ d.depth < n ∧ wid d ≤ 90000 ∧ ∀ H', Ex H H' → Q (.bl true) H'
section
variable {P : Program} {w : World} {K : PySem.W.Frag} {mg : Str → Option Value} {base : Heap}
theorem ok_law_same {AA : Adr} (T : Txt K mg AA) : ∀ n : Nat, Pr P w K mg base "_law_same" s_law_same p_law_same n (spSame n)
  | 0 => by
    obtain ⟨f, fd, F, hb, hm⟩ := T.f_law_same
    exact ⟨f, fd, hm, F, hb, fun vs H Q E h => by
      obtain ⟨x, y, d, _, _, _, h, _⟩ := h
      omega, fun A outer s H args us vs Q E _ _ _ _ h => by
      obtain ⟨x, y, d, _, _, _, h, _⟩ := h
      omega⟩
  | n + 1 => by
    have G := ok_law_same T n
    refine pr_mk T.f_law_same sc_law_same (fun vs H Q E h => ?_) (fun f cdv A outer s H vs Q E hr h => ?_)
    · obtain ⟨x, y, d, rfl, _⟩ := h
      rfl
    · obtain ⟨x, y, d, rfl, hx, hy, hd, hwd, q⟩ := h
      refine ⟨_, (pss_cons (ps_if (PW.pt (pw_or (pt_cmpR op_isN (pv 1) pe_non (nomark _)) (pw_or1 (pt_cmpR op_isN (pv 0) pe_non (nomark _)))))
      (pss_one (ps_ret (pe_and (pe_cmpR op_isN (pv 1) pe_non (nomark _)) (pe_one (pe_cmpR op_isN (pv 0) pe_non (nomark _))))))
      pss_nil)
      (pss_cons (ps_if (pt_val (pe_callB call_isiT (by rfl) T.n_isinstance PyProof.Rows.boot_isinstance (pa_cons (pv 1) (pa_cons (pe_tup (pa_cons (pe_bltn (v := .ty "list") (by rfl) T.n_list (by decide +kernel) rfl) (pa_cons (pe_bltn (v := .ty "tuple") (by rfl) T.n_tuple (by decide +kernel) rfl) pa_nil))) pa_nil))))
      (pss_cons (ps_if (PW.pt (pw_or (pt_cmpR op_ne (pe_callB (call_isiK (K := K) rfl) (by rfl) T.n_isinstance PyProof.Rows.boot_isinstance (pa_cons (pv 0) (pa_cons (pe_bltn (v := .ty "list") (by rfl) T.n_list (by decide +kernel) rfl) pa_nil))) (pe_callB (call_isiK (K := K) rfl) (by rfl) T.n_isinstance PyProof.Rows.boot_isinstance (pa_cons (pv 1) (pa_cons (pe_bltn (v := .ty "list") (by rfl) T.n_list (by decide +kernel) rfl) pa_nil))) (nomark _)) (pw_or1 (pt_cmpR op_ne (pe_callB (call_isiK (K := K) rfl) (by rfl) T.n_isinstance PyProof.Rows.boot_isinstance (pa_cons (pv 0) (pa_cons (pe_bltn (v := .ty "tuple") (by rfl) T.n_tuple (by decide +kernel) rfl) pa_nil))) (pe_callB (call_isiK (K := K) rfl) (by rfl) T.n_isinstance PyProof.Rows.boot_isinstance (pa_cons (pv 1) (pa_cons (pe_bltn (v := .ty "tuple") (by rfl) T.n_tuple (by decide +kernel) rfl) pa_nil))) (nomark _)))))
      (pss_one (ps_ret pe_bl))
      pss_nil)
      (pss_one (ps_ret (pe_and (pe_cmpR op_eq (pe_callB call_len (by rfl) T.n_len PySem.boot_len (pa_cons (pv 0) pa_nil)) (pe_callB call_len (by rfl) T.n_len PySem.boot_len (pa_cons (pv 1) pa_nil)) (nomark _)) (pe_one (pe_callB (cr_all rfl) (by rfl) T.n_all PyProof.Rows.boot_all (pa_cons (pe_lc (own := [("_law_x", 3), ("_law_y", 4)]) (g := gTup K 2 (gCons (gName 3) (gCons (gName 4) gNil))) (tt := tYes) rfl sc_law_same.nd (RZ.pi_zipA (by rfl) T.n_zip (pa_cons (pv 0) (pa_cons (pv 1) pa_nil))) (blkOk_by (own := [("_law_x", 3), ("_law_y", 4)]) (N := n_law_same) (sc := defScope s_law_same) (by decide +kernel)) (fun _ _ _ _ _ => (pg_tup (by rfl) (pgs_cons (pg_name (i := 3) sc_law_same.nd rfl (.inl rfl)) (pgs_cons (pg_name (i := 4) sc_law_same.nd rfl (.inl rfl)) pgs_nil)))) (fun _ _ _ _ _ => pts_nil) (fun _ _ _ _ _ => (pcall G hr (pa_cons (pv 3) (pa_cons (pv 4) pa_nil))))) pa_nil)))))))
      pss_nil)
      (pss_cons (ps_if (pt_val (pe_callB (call_isiK (K := K) rfl) (by rfl) T.n_isinstance PyProof.Rows.boot_isinstance (pa_cons (pv 1) (pa_cons (pe_bltn (v := .ty "dict") (by rfl) T.n_dict (by decide +kernel) rfl) pa_nil))))
      pss_never
      pss_nil)
      (pss_cons (ps_if (PW.pt (pw_or (pt_cmpR op_ne (pe_callB (call_isiK (K := K) rfl) (by rfl) T.n_isinstance PyProof.Rows.boot_isinstance (pa_cons (pv 1) (pa_cons (pe_bltn (v := .ty "bool") (by rfl) T.n_bool (by decide +kernel) rfl) pa_nil))) (pe_callB (call_isiK (K := K) rfl) (by rfl) T.n_isinstance PyProof.Rows.boot_isinstance (pa_cons (pv 0) (pa_cons (pe_bltn (v := .ty "bool") (by rfl) T.n_bool (by decide +kernel) rfl) pa_nil))) (nomark _)) (pw_or1 (pt_cmpR op_ne (pe_callB (call_isiK (K := K) rfl) (by rfl) T.n_isinstance PyProof.Rows.boot_isinstance (pa_cons (pv 1) (pa_cons (pe_bltn (v := .ty "int") (by rfl) T.n_int (by decide +kernel) rfl) pa_nil))) (pe_callB (call_isiK (K := K) rfl) (by rfl) T.n_isinstance PyProof.Rows.boot_isinstance (pa_cons (pv 0) (pa_cons (pe_bltn (v := .ty "int") (by rfl) T.n_int (by decide +kernel) rfl) pa_nil))) (nomark _)))))
      (pss_one (ps_ret pe_bl))
      pss_nil)
      (pss_one (ps_ret (pe_and (pe_cmpR op_eq (pe_callB (call_isiK (K := K) rfl) (by rfl) T.n_isinstance PyProof.Rows.boot_isinstance (pa_cons (pv 1) (pa_cons (pe_bltn (v := .ty "str") (by rfl) T.n_str (by decide +kernel) rfl) pa_nil))) (pe_callB (call_isiK (K := K) rfl) (by rfl) T.n_isinstance PyProof.Rows.boot_isinstance (pa_cons (pv 0) (pa_cons (pe_bltn (v := .ty "str") (by rfl) T.n_str (by decide +kernel) rfl) pa_nil))) (nomark _)) (pe_one (pe_cmpR op_eq (pv 0) (pv 1) (by rfl)))))))))), ?_⟩
      obtain ⟨kl, hkl⟩ := kit_list K d
      obtain ⟨kt, hkt⟩ := kit_tuple K d
      obtain ⟨kb, hkb⟩ := kit_bool K d
      obtain ⟨ki, hki⟩ := kit_int K d
      obtain ⟨ks, hks⟩ := kit_str K d
      -- if due is None or found is None
      refine ⟨_, rfl, rfl, _, rfl, ?_⟩
      by_cases hn : d = .none
      · subst hn
        cases hx
        cases hy
        refine iteT ?_
        refine iteT ?_
        refine ⟨_, rfl, rfl, _, rfl, iteT ?_⟩
        refine ⟨_, rfl, rfl, ?_⟩
        exact q _ (Ex.refl _)
      · have hxn : decide (x = V.non) = false := decide_eq_false fun e => by
          subst e
          cases hx
          exact hn rfl
        have hyn : decide (y = V.non) = false := decide_eq_false fun e => by
          subst e
          cases hy
          exact hn rfl
        rw [hyn]
        refine iteF ?_
        refine ⟨_, rfl, rfl, _, rfl, ?_⟩
        rw [hxn]
        refine iteF ?_
        -- if isinstance(due, (list, tuple))
        refine ⟨_, rfl, by show 2 ≤ sizeLine; decide, fun t1 ht1 => ?_⟩
        have e1 : Ex H (upd H t1 (.tup [.ty "list", .ty "tuple"])) := Ex.new ht1
        have hx := Rep.mono e1 hx
        have hy := Rep.mono e1 hy
        refine ⟨y, t1, [.ty "list", .ty "tuple"], _, [.type "list", .type "tuple"], _, rfl, upd_same, .cons (.ty _) (.cons (.ty _) .nil), hy.ty, kit_seq K d, _, rfl, ?_⟩
        generalize upd H t1 (.tup [.ty "list", .ty "tuple"]) = H1 at e1 hx hy
        cases hs : seqD d with
        | false =>
          refine iteF ?_
          have fl : PySem.W.kitOne K (.type (tyD d)) (.type "dict") = some false ∧ x = y ∧ scal x y = true := by
            cases hx with
            | non => exact absurd rfl hn
            | bl b => cases hy; exact ⟨kit_ty (a := "bool") (by decide +kernel), rfl, rfl⟩
            | int b => cases hy; exact ⟨kit_ty (a := "int") (by decide +kernel), rfl, rfl⟩
            | str b => cases hy; exact ⟨kit_ty (a := "str") (by decide +kernel), rfl, rfl⟩
            | lst _ _ => cases hs
            | tup _ _ => cases hs
          obtain ⟨hkd, hxy, hsc⟩ := fl
          subst hxy
          refine ⟨_, rfl, x, .ty "dict", _, _, _, rfl, .ty _, hy.ty, hkd, _, rfl, iteF ?_⟩
          refine ⟨_, rfl, x, .ty "bool", _, _, _, rfl, .ty _, hy.ty, hkb, _, rfl, x, .ty "bool", _, _, _, rfl, .ty _, hx.ty, hkb, rfl, _, rfl, ?_⟩
          refine iteNS rfl ?_
          refine ⟨_, rfl, x, .ty "int", _, _, _, rfl, .ty _, hy.ty, hki, _, rfl, x, .ty "int", _, _, _, rfl, .ty _, hx.ty, hki, rfl, _, rfl, ?_⟩
          refine iteNS rfl ?_
          refine ⟨_, rfl, x, .ty "str", _, _, _, rfl, .ty _, hy.ty, hks, _, rfl, x, .ty "str", _, _, _, rfl, .ty _, hx.ty, hks, rfl, _, rfl, iteDT rfl ?_⟩
          refine ⟨_, rfl, _, rfl, hsc, ?_⟩
          rw [decide_eq_true rfl]
          exact q _ e1
        | true =>
          refine iteT ?_
          -- kinds
          refine ⟨_, rfl, x, .ty "list", _, _, _, rfl, .ty _, hx.ty, hkl, _, rfl, y, .ty "list", _, _, _, rfl, .ty _, hy.ty, hkl, rfl, _, rfl, ?_⟩
          refine iteNS rfl ?_
          refine ⟨_, rfl, x, .ty "tuple", _, _, _, rfl, .ty _, hx.ty, hkt, _, rfl, y, .ty "tuple", _, _, _, rfl, .ty _, hy.ty, hkt, rfl, _, rfl, ?_⟩
          refine iteNS rfl ?_
          -- len(found) == len(due) and all([..])
          have main : ∃ (ds : List PyData) (p1 p2 : Addr) (xs ys : List V), x = .ref p1 ∧ y = .ref p2 ∧ Reps H1 xs ds ∧ Reps H1 ys ds ∧ PyData.depthAll ds < n ∧ ds.length ≤ 90000 ∧ widAll ds ≤ 90000 ∧ ((H1 p1 = some (.lst xs) ∧ H1 p2 = some (.lst ys)) ∨ (H1 p1 = some (.tup xs) ∧ H1 p2 = some (.tup ys))) := by
            cases hx with
            | non => exact absurd rfl hn
            | bl b => cases hs
            | int b => cases hs
            | str b => cases hs
            | lst h r =>
              cases hy with
              | lst h' r' => exact ⟨_, _, _, _, _, rfl, rfl, r, r', by simp only [PyData.depth] at hd; omega, by simp only [wid] at hwd; omega, by simp only [wid] at hwd; omega, .inl ⟨h, h'⟩⟩
            | tup h r =>
              cases hy with
              | tup h' r' => exact ⟨_, _, _, _, _, rfl, rfl, r, r', by simp only [PyData.depth] at hd; omega, by simp only [wid] at hwd; omega, by simp only [wid] at hwd; omega, .inr ⟨h, h'⟩⟩
          obtain ⟨ds, p1, p2, xs, ys, rfl, rfl, rx, ry, hdn, hl1, hl2, ho⟩ := main
          have lx := rx.length
          have ly := ry.length
          have LX : LenV K (.ref p1) H1 xs.length := by
            rcases ho with ⟨h, _⟩ | ⟨h, _⟩
            · exact .inl ⟨_, sq_of h, rfl⟩
            · exact .inr ⟨_, st_of h, rfl⟩
          have LY : LenV K (.ref p2) H1 ys.length := by
            rcases ho with ⟨_, h⟩ | ⟨_, h⟩
            · exact .inl ⟨_, sq_of h, rfl⟩
            · exact .inr ⟨_, st_of h, rfl⟩
          refine ⟨_, rfl, .ref p1, _, rfl, LX, _, rfl, .ref p2, _, rfl, LY, rfl, _, rfl, iteDT (by rw [lx, ly]) ?_⟩
          -- all([same(x, y) for x, y in zip(found, due)])
          have turn : ∀ (D : Addr) (i : Nat) (v : V) (H3 H4 : Hp), i < ds.length → (H1 D = none ∧ Ex H1 H3 ∧ H3 D = some (.lst (List.replicate i (V.bl true)))) → YPair (fun i => xs[i]?) (fun i => ys[i]?) i H3 v H4 →
              gTup K 2 (gCons (gName 3) (gCons (gName 4) gNil)) v [some (V.ref p1), some (V.ref p2), none, none, none] H4 fun σ2 H5 => wipe σ2 [3, 4] = [some (V.ref p1), some (V.ref p2), none, none, none] ∧ tYes σ2 H5 fun b H6 =>
                if b = true then tCall (spSame n) [] (fun _ _ _ => False) (tCons (tVar 3) (tCons (tVar 4) tNil)) σ2 H6 fun y H7 => ∃ acc, H7 D = some (.lst acc) ∧ acc.length < sizeLine ∧
                  (fun i H' => H1 D = none ∧ Ex H1 H' ∧ H' D = some (.lst (List.replicate i (V.bl true)))) (i + 1) (upd H7 D (.lst (acc ++ [y]))) else (fun i H' => H1 D = none ∧ Ex H1 H' ∧ H' D = some (.lst (List.replicate i (V.bl true)))) (i + 1) H6 := by
            intro D i v H3 H4 hi hp hy4
            obtain ⟨T1, u1, u2, rfl, hT, rfl, g1, g2⟩ := hy4
            obtain ⟨hD, ex3, hD3⟩ := hp
            obtain ⟨d1, hd1, r1⟩ := rx.get g1
            obtain ⟨d2, hd2, r2⟩ := ry.get g2
            rw [hd1] at hd2
            cases hd2
            have ex4 : Ex H3 (upd H3 T1 (.tup [u1, u2])) := Ex.new hT
            refine ⟨T1, [u1, u2], rfl, st_of upd_same, rfl, u1, [u2], rfl, u2, [], rfl, rfl, rfl, ?_⟩
            refine ⟨u1, rfl, u2, rfl, u1, u2, d1, rfl, Rep.mono (ex3.trans ex4) r1, Rep.mono (ex3.trans ex4) r2, Nat.lt_of_le_of_lt (depth_get hd1) hdn, Nat.le_trans (wid_get hd1) hl2, fun H7 e7 => ?_⟩
            refine ⟨_, e7 _ _ (ex4 _ _ hD3), ?_, hD, ((ex3.trans ex4).trans e7).mut hD, ?_⟩
            · rw [List.length_replicate]
              exact sz_lt (by omega)
            · rw [upd_same, List.replicate_succ']
          have fin : ∀ (D : Addr) (H' : Hp), (H1 D = none ∧ Ex H1 H' ∧ H' D = some (.lst (List.replicate ds.length (V.bl true)))) → tNil [some (V.ref p1), some (V.ref p2), none, none, none] H' fun xs H2 => rAll K (V.ref D :: xs) H2 Q := by
            intro D H' hp
            refine ⟨D, List.replicate ds.length true, rfl, sq_of (hp.2.2.trans (by rw [List.map_replicate])), ?_⟩
            rw [show (List.replicate ds.length true).all id = true by simp]
            exact q _ (e1.trans hp.2.1)
          rcases ho with ⟨h1, h2⟩ | ⟨h1, h2⟩
          · refine ⟨_, rfl, _, rfl, p1, p2, xs, ys, rfl, .inl ⟨sq_of h1, sq_of h2, fun D hD => lc_it (walk_zip (n := ds.length) (by omega)) (fun i H' => H1 D = none ∧ Ex H1 H' ∧ H' D = some (.lst (List.replicate i (V.bl true)))) ⟨hD, Ex.new hD, upd_same⟩ (fun i H' _ hp => ⟨sq_of (hp.2.1 _ _ h1), sq_of (hp.2.1 _ _ h2)⟩) (fun i v H3 H4 hi hp hy4 => turn D i v H3 H4 hi hp hy4) (fun H' hp => fin D H' hp)⟩⟩
          · refine ⟨_, rfl, _, rfl, p1, p2, xs, ys, rfl, .inr ⟨st_of h1, st_of h2, fun D hD => lc_it (walk_zipT (n := ds.length) (by omega)) (fun i H' => H1 D = none ∧ Ex H1 H' ∧ H' D = some (.lst (List.replicate i (V.bl true)))) ⟨hD, Ex.new hD, upd_same⟩ (fun i H' _ hp => ⟨st_of (hp.2.1 _ _ h1), st_of (hp.2.1 _ _ h2)⟩) (fun i v H3 H4 hi hp hy4 => turn D i v H3 H4 hi hp hy4) (fun H' hp => fin D H' hp)⟩⟩
end
end Eyes

set_option Elab.async false
set_option linter.all false
set_option maxRecDepth 100000
set_option maxHeartbeats 4000000
namespace Eyes
open PySem PySem.Spec PyProof.Rows L2 Evl TL
def spPs (K : PySem.W.Frag) (C : Addr) (ok : List Ci → Prop) (g : List Ci → V) : Sp := fun vs H Q _ => ∃ (l : Addr) (us : List V) (ps : List Ci), vs = [.ref l] ∧ SqL K H l us ∧ CisAt C H us ps ∧ us.length ≤ 90000 ∧ ok ps ∧ ∀ H', Ex H H' → Q (g ps) H'
def spCi (C : Addr) (ok : Ci → Prop) (g : Ci → V) : Sp := fun vs H Q _ => ∃ (v : V) (c : Ci), vs = [v] ∧ CiAt C H v c ∧ ok c ∧ ∀ H', Ex H H' → Q (g c) H'
def spParts (C : Addr) : Sp := fun vs H Q _ => ∃ (p dx lp : Addr) (us : List V) (kind name : Str) (s d : Int) (t : Str), vs = [.ref p] ∧ H p = some (.ins C dx (flds kind name lp s d t)) ∧ H lp = some (.lst us) ∧ ∀ l, H l = none → Q (.ref l) (upd H l (.lst us))
section
variable {P : Program} {w : World} {K : PySem.W.Frag} {mg : Str → Option Value} {base : Heap} {AA : Adr}
theorem ok_size_of (T : Txt K mg AA) : Pr P w K mg base "size_of" s_size_of p_size_of 1 (spPs K AA.Circle (fun _ => True) fun ps => .int (sizes ps)) := by
  refine pr_mk T.f_size_of sc_size_of (fun vs H Q E h => ?_) (fun f cdv A outer s H vs Q E hr h => ?_)
  · obtain ⟨l, us, ps, rfl, _⟩ := h
    rfl
  · obtain ⟨l, us, ps, rfl, hl, hc, hn, _, q⟩ := h
    refine ⟨_, (pss_one (ps_ret (pe_callB (cr_sum rfl) (by rfl) T.n_sum PyProof.Rows.boot_sum (pa_cons (pe_lc (own := [("part", 1)]) (g := gName 1) (tt := tYes) rfl sc_size_of.nd (pi_list (pv 0)) (blkOk_by (own := [("part", 1)]) (N := n_size_of) (sc := defScope s_size_of) (by decide +kernel)) (fun _ _ _ _ _ => (pg_name (i := 1) sc_size_of.nd rfl (.inl rfl))) (fun _ _ _ _ _ => pts_nil) (fun _ _ _ _ _ => (pe_fldK (K := K) rfl (pv 1) rfl))) pa_nil)))), ?_⟩
    refine ⟨_, rfl, l, rfl, ⟨us, hl⟩, fun D hD => lc_it (walk_list (xs := us)) (fun i H' => H D = none ∧ Ex H H' ∧ H' D = some (.lst ((ps.take i).map fun c => V.int (c.size : Nat)))) ⟨hD, Ex.new hD, upd_same⟩ (fun _ _ _ hp => ex_l hp.2.1 hl) (fun i v H3 H4 hi hp hy => ?_) (fun H' hp => ?_)⟩
    · obtain ⟨rfl, hv⟩ := hy
      obtain ⟨c, hg, hA⟩ := hc.get hv
      obtain ⟨h1, h2, h3⟩ := hp
      obtain ⟨p, dx, l2, ws, rfl, hp, _⟩ := (hA.mono h2).at_
      refine ⟨rfl, _, rfl, p, AA.Circle, dx, _, _, rfl, hp, T.c_Circle, T.a_Circle_size, fl_size, _, h3, ?_, h1, h2.mut h1, ?_⟩
      · rw [List.length_map, List.length_take]
        exact sz_lt (by omega)
      · rw [upd_same, List.take_add_one, hg, List.map_append]
        rfl
    · obtain ⟨h1, h2, h3⟩ := hp
      rw [List.take_of_length_le (by rw [hc.length]; exact Nat.le_refl _)] at h3
      refine ⟨D, ps.map fun c => ((c.size : Nat) : Int), rfl, sq_of (by rw [h3, List.map_map]; rfl), ?_⟩
      rw [← sizes_sum]
      exact q _ h2
theorem ok_depth_over (T : Txt K mg AA) : Pr P w K mg base "depth_over" s_depth_over p_depth_over 1 (spPs K AA.Circle (fun ps => ps ≠ []) fun ps => .int (1 + (depths ps : Int))) := by
  refine pr_mk T.f_depth_over sc_depth_over (fun vs H Q E h => ?_) (fun f cdv A outer s H vs Q E hr h => ?_)
  · obtain ⟨l, us, ps, rfl, _⟩ := h
    rfl
  · obtain ⟨l, us, ps, rfl, hl, hc, hn, hne, q⟩ := h
    refine ⟨_, (pss_one (ps_ret (pe_op op_add pe_int (pe_callB (cr_max rfl) (by rfl) T.n_max PyProof.Rows.boot_max (pa_cons (pe_lc (own := [("part", 1)]) (g := gName 1) (tt := tYes) rfl sc_depth_over.nd (pi_list (pv 0)) (blkOk_by (own := [("part", 1)]) (N := n_depth_over) (sc := defScope s_depth_over) (by decide +kernel)) (fun _ _ _ _ _ => (pg_name (i := 1) sc_depth_over.nd rfl (.inl rfl))) (fun _ _ _ _ _ => pts_nil) (fun _ _ _ _ _ => (pe_fldK (K := K) rfl (pv 1) rfl))) pa_nil))))), ?_⟩
    refine ⟨_, rfl, l, rfl, ⟨us, hl⟩, fun D hD => lc_it (walk_list (xs := us)) (fun i H' => H D = none ∧ Ex H H' ∧ H' D = some (.lst ((ps.take i).map fun c => V.int (c.depth : Nat)))) ⟨hD, Ex.new hD, upd_same⟩ (fun _ _ _ hp => ex_l hp.2.1 hl) (fun i v H3 H4 hi hp hy => ?_) (fun H' hp => ?_)⟩
    · obtain ⟨rfl, hv⟩ := hy
      obtain ⟨c, hg, hA⟩ := hc.get hv
      obtain ⟨h1, h2, h3⟩ := hp
      obtain ⟨p, dx, l2, ws, rfl, hp, _⟩ := (hA.mono h2).at_
      refine ⟨rfl, _, rfl, p, AA.Circle, dx, _, _, rfl, hp, T.c_Circle, T.a_Circle_depth, fl_depth, _, h3, ?_, h1, h2.mut h1, ?_⟩
      · rw [List.length_map, List.length_take]
        exact sz_lt (by omega)
      · rw [upd_same, List.take_add_one, hg, List.map_append]
        rfl
    · obtain ⟨h1, h2, h3⟩ := hp
      rw [List.take_of_length_le (by rw [hc.length]; exact Nat.le_refl _)] at h3
      refine ⟨D, ps.map fun c => ((c.depth : Nat) : Int), rfl, sq_of (by rw [h3, List.map_map]; rfl), ?_, fun m hm hx => ⟨1, m, rfl, rfl, ?_⟩⟩
      · rw [List.length_map]
        exact List.length_pos_iff.mpr hne
      · have e : m = (depths ps : Int) := by
          obtain ⟨c, hc, rfl⟩ := List.mem_map.mp hm
          obtain ⟨d, hd, e⟩ := depths_mem hne
          have h5 := hx _ (List.mem_map.mpr ⟨d, hd, rfl⟩)
          have h6 := depths_le hc
          omega
        rw [e]
        exact q _ h2
theorem ok_Circle_parts (T : Txt K mg AA) : PrM P w K mg base AA.Circle "parts" p_Circle_parts 1 (spParts AA.Circle) := by
  refine prm_mk T.t_Circle_parts sc_Circle_parts (fun vs H Q E h => ?_) (fun f cdv A outer s H vs Q E hr h => ?_)
  · obtain ⟨p, dx, lp, us, kind, name, s, d, t, rfl, _⟩ := h
    rfl
  · obtain ⟨p, dx, lp, us, kind, name, s, d, t, rfl, hp, hl, q⟩ := h
    refine ⟨_, (pss_one (ps_ret (pe_callTy call_list_of (by rfl) T.n_list PyProof.Rows.boot_list (pa_cons (pe_fldK (K := K) rfl (pv 0) rfl) pa_nil)))), ?_⟩
    refine ⟨_, rfl, p, AA.Circle, dx, _, _, rfl, hp, T.c_Circle, T.a_Circle_parts, fl_parts, lp, us, rfl, .inl (sq_of hl), fun l2 hl2 => ?_⟩
    exact q _ hl2
theorem ok_Circle___str (T : Txt K mg AA) : PrM P w K mg base AA.Circle "__str__" p_Circle___str 1 (spCi AA.Circle (fun c => c.str.length ≤ 90000) fun c => .str c.str) := by
  refine prm_mk T.t_Circle___str sc_Circle___str (fun vs H Q E h => ?_) (fun f cdv A outer s H vs Q E hr h => ?_)
  · obtain ⟨v, c, rfl, _⟩ := h
    rfl
  · obtain ⟨v, c, rfl, hc, hz, q⟩ := h
    refine ⟨_, (pss_one (ps_ret (pe_callTy SkE.call_str_str (by rfl) T.n_str PyProof.Rows.boot_str (pa_cons (pe_fldK (K := K) rfl (pv 0) rfl) pa_nil)))), ?_⟩
    obtain ⟨p, dx, l, us, rfl, hp, hl, hc⟩ := hc.at_
    exact ⟨_, rfl, p, AA.Circle, dx, _, _, rfl, hp, T.c_Circle, T.a_Circle_text, fl_text, _, rfl, q _ (Ex.refl _)⟩
end
end Eyes

set_option Elab.async false
set_option linter.all false
set_option maxRecDepth 100000
set_option maxHeartbeats 4000000
namespace Eyes
open PySem PySem.Spec PyProof.Rows L2 Evl TL
def inner (c : Ci) : Str := ⟨(wrapL c c.tx).toArray⟩
theorem kindS_eye (k : Bool) : kindS k ≠ "eye" := by cases k <;> decide +kernel
def spTextOf (K : PySem.W.Frag) (C : Addr) : Sp := fun vs H Q _ => ∃ (l : Addr) (us : List V) (k : Bool) (ps : List Ci), vs = [.str (kindS k), .ref l] ∧ SqL K H l us ∧ CisAt C H us ps ∧ us.length ≤ 900 ∧ (∀ c ∈ ps, c.str.length ≤ 900) ∧ ∀ H', Ex H H' → Q (.str (Ci.node k ps).str) H'
section
variable {P : Program} {w : World} {K : PySem.W.Frag} {mg : Str → Option Value} {base : Heap} {AA : Adr}
theorem ok_inner_text (T : Txt K mg AA) : Pr P w K mg base "inner_text" s_inner_text p_inner_text 2 (spCi AA.Circle (fun c => c.str.length ≤ 900) fun c => .str (inner c)) := by
  refine pr_mk T.f_inner_text sc_inner_text (fun vs H Q E h => ?_) (fun f cdv A outer s H vs Q E hr h => ?_)
  · obtain ⟨v, c, rfl, _⟩ := h
    rfl
  · obtain ⟨v, c, rfl, hc, hz, q⟩ := h
    refine ⟨_, (pss_cons (ps_if (pt_cmpR op_eq (pe_fldK (K := K) rfl (pv 0) rfl) pe_str (nomark _))
      (pss_one (ps_ret (pe_fldK (K := K) rfl (pv 0) rfl)))
      pss_nil)
      (pss_one (ps_ret (pe_joined (PJ.cons pe_str (PJ.cons (pe_fmtOwn (ok_Circle___str T) hr (pv 0)) (PJ.cons pe_str PJ.nil))))))), ?_⟩
    have hc0 := hc
    obtain ⟨p, dx, l, us, rfl, hp, hl, hcs⟩ := hc.at_
    refine ⟨_, rfl, p, AA.Circle, dx, _, _, rfl, hp, T.c_Circle, T.a_Circle_kind, fl_kind, ?_⟩
    refine ⟨rfl, _, rfl, ?_⟩
    cases c with
    | eye n =>
      refine iteT ?_
      refine ⟨_, rfl, p, AA.Circle, dx, _, _, rfl, hp, T.c_Circle, T.a_Circle_name, fl_name, ?_⟩
      have e : inner (.eye n) = n := ext_tl rfl
      have q2 := q _ (Ex.refl _)
      simp only [e] at q2
      exact q2
    | node k ps =>
      have e : decide ((V.str (kindS k)) = V.str "eye") = false := decide_eq_false fun h => kindS_eye k (V.str.inj h)
      have e2 : (decide ((V.str (Ci.node k ps).kind) = V.str (Str.ofString "eye"))) = false := e
      rw [e2]
      refine iteF ?_
      refine ⟨_, rfl, by decide +kernel, _, rfl, p, dx, _, rfl, hp, _, _, rfl, hc0, by omega, fun H' ex => ⟨_, rfl, sz_of (by omega), _, rfl, ?_, _, rfl, ?_, ?_⟩⟩
      · rw [len_tl, tl_append, List.length_append, ← len_tl, ← len_tl]
        have : (Str.empty ++ Str.ofString "(").length = 1 := by decide +kernel
        exact sz_of (by omega)
      · rw [len_tl, tl_append, tl_append, List.length_append, List.length_append, ← len_tl, ← len_tl, ← len_tl]
        have : (Str.empty ++ Str.ofString "(").length = 1 := by decide +kernel
        have : (Str.ofString ")").length = 1 := by decide +kernel
        exact sz_of (by omega)
      · have e : Str.empty ++ Str.ofString "(" ++ (Ci.node k ps).str ++ Str.ofString ")" = inner (.node k ps) := by
          refine ext_tl ?_
          rw [tl_append, tl_append, tl_str]
          show 40 :: ((Ci.node k ps).tx) ++ [41] = _
          rfl
        rw [e]
        exact q _ ex
theorem ok_text_of (T : Txt K mg AA) : Pr P w K mg base "text_of" s_text_of p_text_of 3 (spTextOf K AA.Circle) := by
  refine pr_mk T.f_text_of sc_text_of (fun vs H Q E h => ?_) (fun f cdv A outer s H vs Q E hr h => ?_)
  · obtain ⟨l, us, k, ps, rfl, _⟩ := h
    rfl
  · obtain ⟨l, us, k, ps, rfl, hl, hc, hn, hz, q⟩ := h
    refine ⟨_, (pss_cons (ps_setLc (i := 2) (own := [("part", 3)]) (g := gName 3) (tt := tYes) rfl sc_text_of.nd rfl rfl (sw_true rfl rfl rfl (by decide +kernel)) (pi_list (pv 1)) (blkOk_by (own := [("part", 3)]) (N := n_text_of) (sc := defScope s_text_of) (by decide +kernel)) (fun _ _ _ _ _ => (pg_name (i := 3) sc_text_of.nd rfl (.inl rfl))) (fun _ _ _ _ _ => pts_nil) (fun _ _ _ _ _ => (pcall (ok_inner_text T) hr (pa_cons (pv 3) pa_nil))))
      (pss_cons (ps_if (pt_cmpR op_eq (pv 0) pe_str (nomark _))
      (pss_one (ps_ret (pe_join pe_str (pv 2))))
      pss_nil)
      (pss_one (ps_ret (pe_join pe_str (pv 2)))))), ?_⟩
    refine ⟨_, rfl, l, rfl, ⟨us, hl⟩, fun D hD => lc_it (walk_list (xs := us)) (fun i H' => H D = none ∧ Ex H H' ∧ H' D = some (.lst ((ps.take i).map fun c => V.str (inner c)))) ⟨hD, Ex.new hD, upd_same⟩ (fun _ _ _ hp => ex_l hp.2.1 hl) (fun i v H3 H4 hi hp hy => ?_) (fun H' hp => ?_)⟩
    · obtain ⟨rfl, hv⟩ := hy
      obtain ⟨c, hg, hA⟩ := hc.get hv
      obtain ⟨h1, h2, h3⟩ := hp
      refine ⟨rfl, _, rfl, _, c, rfl, hA.mono h2, hz c (List.mem_of_getElem? hg), fun H' ex => ⟨_, ex _ _ h3, ?_, h1, (h2.trans ex).mut h1, ?_⟩⟩
      · rw [List.length_map, List.length_take]
        exact sz_lt (by omega)
      · rw [upd_same, List.take_add_one, hg, List.map_append]
        rfl
    · obtain ⟨h1, h2, h3⟩ := hp
      rw [List.take_of_length_le (by rw [hc.length]; exact Nat.le_refl _)] at h3
      have hj : ∀ S : Str, tl S = tl (sepS k) → Txt.join S (ps.map inner) = (Ci.node k ps).str := fun S hS => by
        refine ext_tl ?_
        rw [TL.join_eq, tl_join, List.map_map, hS]
        show joinL (tl (sepS k)) _ = joinL (tl (sepS k)) (inns ps)
        rw [inns_map]
        rfl
      have hd : H' D = some (.lst ((ps.map inner).map V.str)) := by
        rw [h3, List.map_map]
        rfl
      have hsum : ((ps.map inner).map (·.length)).sum + (ps.map inner).length * 3 ≤ 16777216 := by
        have h4 : ps.length ≤ 900 := by rw [← hc.length]; exact hn
        have h5 : ∀ qs : List Ci, (∀ c ∈ qs, c.str.length ≤ 900) → ((qs.map inner).map (·.length)).sum ≤ qs.length * 902 := by
          intro qs
          induction qs with
          | nil => intro _; simp
          | cons c r ih =>
            intro h
            have h6 := ih fun d hd => h d (List.mem_cons_of_mem _ hd)
            have h7 := h c List.mem_cons_self
            have h8 : (inner c).length ≤ c.str.length + 2 := by
              rw [len_tl, len_tl, tl_str]
              cases c with
              | eye n => exact Nat.le_add_right _ _
              | node k ps => show (40 :: (_ ++ [41])).length ≤ _; rw [List.length_cons, List.length_append]; exact Nat.le_refl _
            rw [List.map_cons, List.map_cons, List.sum_cons, List.length_cons, Nat.succ_mul]
            omega
        have h9 := h5 ps hz
        rw [List.length_map]
        have : ps.length * 902 ≤ 900 * 902 := Nat.mul_le_mul_right _ h4
        omega
      refine ⟨_, rfl, rfl, _, rfl, ?_⟩
      cases k with
      | true =>
        refine iteT ⟨⟨_, rfl⟩, _, rfl, _, D, ps.map inner, rfl, rfl, .inl (sq_of hd), hsum, ?_⟩
        show Q (V.str (Txt.join (Str.ofString " & ") (ps.map inner))) H'
        rw [hj (Str.ofString " & ") rfl]
        exact q _ h2
      | false =>
        refine iteF ⟨⟨_, rfl⟩, _, rfl, _, D, ps.map inner, rfl, rfl, .inl (sq_of hd), hsum, ?_⟩
        show Q (V.str (Txt.join (Str.ofString " | ") (ps.map inner))) H'
        rw [hj (Str.ofString " | ") rfl]
        exact q _ h2
end
end Eyes

set_option Elab.async false
set_option linter.all false
set_option maxRecDepth 100000
set_option maxHeartbeats 4000000
namespace Eyes
open PySem PySem.Spec PyProof.Rows L2 Evl TL
def SqLT (K : PySem.W.Frag) (H : Hp) (a : Addr) (xs : List V) : Prop := SqL K H a xs ∨ SqT K H a xs
theorem ex_lt {K : PySem.W.Frag} {H H' : Hp} {a : Addr} {xs : List V} (e : Ex H H') (h : SqLT K H a xs) : SqLT K H' a xs := h.imp (ex_l e) (ex_t e)
theorem for_lt {K : PySem.W.Frag} {j : Nat} {a : Addr} {xs : List V} {g : TG} {tb : TS} {D : Ends} {σ : L2.St} {H : Hp} (hj : σ[j]? = some (some (.ref a))) {G : Hp} (hx : SqLT K G a xs) (e0 : Ex G H) (Pv : Nat → L2.St → Hp → Prop) (h0 : Pv 0 σ H) (hl : ∀ i σ H', Pv i σ H' → Ex G H')
    (hs : ∀ i x σ H, xs[i]? = some x → Pv i σ H → g x σ H fun σ2 H2 => tb { D with nx := Pv (i + 1), ct := Pv (i + 1), bk := D.nx } σ2 H2) (hd : ∀ σ H, Pv xs.length σ H → D.nx σ H) {R : It → Hp → Prop}
    (hR : ∀ J H1, (∃ W : Nat → Nat → L2.St → Hp → Prop, (∃ m, W 0 m σ H1) ∧ ∀ i m σ H, W i m σ H →
      (J.stop i H ∧ D.nx σ H) ∨ (J.go i H ∧ ∃ N : L2.St → Hp → Prop, (∀ σ' H', N σ' H' → ∃ m', m' < m ∧ W (i + 1) m' σ' H') ∧ ∀ x H', J.yld i H x H' → g x σ H' fun σ2 H2 => tb { D with nx := N, ct := N, bk := D.nx } σ2 H2)) = R J H1) :
    iList K (tVar j) σ H R ∨ iTup K (tVar j) σ H R := by
  rcases hx with h | h
  · refine .inl ⟨_, hj, a, rfl, ⟨xs, ex_l e0 h⟩, ?_⟩
    rw [← hR]
    exact for_list Pv h0 (fun i σ H' _ p => ex_l (hl i σ H' p) h) hs hd
  · refine .inr ⟨_, hj, a, rfl, ⟨xs, ex_t e0 h⟩, ?_⟩
    rw [← hR]
    exact for_tup Pv h0 (fun i σ H' _ p => ex_t (hl i σ H' p) h) hs hd
def spFlat (K : PySem.W.Frag) (C : Addr) : Sp := fun vs H Q _ => ∃ (l : Addr) (us : List V) (k : Bool) (cs : List Ci), vs = [.str (kindS k), .ref l] ∧ SqLT K H l us ∧ CisAt C H us cs ∧ (flat k cs).length ≤ 90000 ∧ ∀ l2 ws H', H l2 = none → Ex H H' → H' l2 = some (.lst ws) → CisAt C H ws (flat k cs) → Q (.ref l2) H'
def spDd (K : PySem.W.Frag) (C : Addr) : Sp := fun vs H Q _ => ∃ (l : Addr) (us : List V) (cs : List Ci), vs = [.ref l] ∧ SqL K H l us ∧ CisAt C H us cs ∧ cs.length ≤ 90000 ∧ (∀ c ∈ cs, c.str.length ≤ 900) ∧ ∀ l2 ws H', H l2 = none → Ex H H' → H' l2 = some (.lst ws) → CisAt C H ws (dd [] cs) → Q (.ref l2) H'
section
variable {P : Program} {w : World} {K : PySem.W.Frag} {mg : Str → Option Value} {base : Heap} {AA : Adr}
theorem isK_kind {k : Bool} (c : Ci) : decide (V.str c.kind = V.str (kindS k)) = c.isK k := by
  cases c with
  | eye n => exact decide_eq_false fun h => kindS_eye k (V.str.inj h).symm
  | node j ps =>
    have h : ∀ j k : Bool, decide (V.str (kindS j) = V.str (kindS k)) = (j == k) := by decide +kernel
    exact h j k
theorem ok_flattened (T : Txt K mg AA) : Pr P w K mg base "flattened" s_flattened p_flattened 2 (spFlat K AA.Circle) := by
  refine pr_mk T.f_flattened sc_flattened (fun vs H Q E h => ?_) (fun f cdv A outer s H vs Q E hr h => ?_)
  · obtain ⟨l, us, k, cs, rfl, _⟩ := h
    rfl
  · obtain ⟨l, us, k, cs, rfl, hl, hc, hn, q⟩ := h
    refine ⟨_, (pss_cons (ps_set (i := 2) sc_flattened.nd rfl (.inl rfl) (pe_lst pa_nil))
      (pss_cons (ps_for PassesOwn.never rfl (pi_or (pi_list (pv 1)) (pi_tup (pv 1))) (pg_name (i := 3) sc_flattened.nd rfl (.inl rfl))
      (pss_one (ps_if (pt_cmpR op_eq (pe_fldK (K := K) rfl (pv 3) rfl) (pv 0) (nomark _))
      (pss_one (ps_expr (pe_bm PySem.F.plainAttrs_list PySem.F.slot_list_extend PySem.F.type_list_extend mt_extend (pv 2) (pa_cons (pmeth0 T.c_Circle (ok_Circle_parts T) hr (pv 3)) pa_nil))))
      (pss_one (ps_expr (pe_bm PySem.F.plainAttrs_list PySem.F.slot_list_append PySem.F.type_list_append mt_append (pv 2) (pa_cons (pv 3) pa_nil)))))))
      (pss_one (ps_ret (pv 2))))), ?_⟩
    refine ⟨by show 0 ≤ sizeLine; decide, fun fl hfl => ?_⟩
    refine for_lt (xs := us) rfl hl (Ex.new hfl) (fun i σ H' => ∃ (y : Option V) (ws : List V), σ = [some (.str (kindS k)), some (.ref l), some (.ref fl), y] ∧ Ex H H' ∧ H' fl = some (.lst ws) ∧ CisAt AA.Circle H ws (flat k (cs.take i))) ⟨none, [], rfl, Ex.new hfl, upd_same, .nil⟩ (fun i σ H' hp => ?_) (fun i x σ H' hx hp => ?_) (fun σ H' hp => ?_) (fun _ _ => rfl)
    · obtain ⟨y, ws, rfl, e1, h1, h2⟩ := hp
      exact e1
    · obtain ⟨y, ws, rfl, e1, h1, h2⟩ := hp
      obtain ⟨c, hg, hA⟩ := hc.get hx
      have hlen : ws.length + (if c.isK k = true then c.parts else [c]).length ≤ 90000 := by
        have h3 := flat_len_take k cs (i + 1)
        rw [List.take_add_one, hg, flat_append, List.length_append, ← h2.length] at h3
        have h4 : flat k (some c).toList = if c.isK k = true then c.parts else [c] := List.append_nil _
        rw [h4] at h3
        omega
      have hflat : flat k (cs.take (i + 1)) = flat k (cs.take i) ++ (if c.isK k = true then c.parts else [c]) := by
        rw [List.take_add_one, hg, flat_append]
        exact congrArg _ (List.append_nil _)
      obtain ⟨p, dx, lp, vs2, rfl, hp, hlp, hcs⟩ := hA.at_
      refine ⟨_, rfl, p, AA.Circle, dx, _, _, rfl, e1 _ _ hp, T.c_Circle, T.a_Circle_kind, fl_kind, _, rfl, rfl, _, rfl, ?_⟩
      show if decide (V.str c.kind = V.str (kindS k)) = true then _ else _
      rw [isK_kind]
      refine ite2 (fun hk => ?_) (fun hk => ?_)
      · rw [if_pos hk] at hlen hflat
        refine ⟨_, rfl, .inl ⟨rfl, ws, sq_of h1⟩, _, rfl, p, dx, _, rfl, e1 _ _ hp, fl_no (by decide +kernel) (by decide +kernel) (by decide +kernel) (by decide +kernel) (by decide +kernel) (by decide +kernel), p, dx, lp, vs2, _, _, _, _, _, rfl, e1 _ _ hp, e1 _ _ hlp, fun l2 hl2 => ?_⟩
        have hne : fl ≠ l2 := ne_of_none h1 hl2
        refine ⟨fl, l2, ws, vs2, rfl, rfl, (upd_ne hne).trans h1, upd_same, sz_of (by have := hcs.length; omega), _, ws ++ vs2, rfl, (e1.trans (Ex.new hl2)).mut hfl, upd_same, ?_⟩
        rw [hflat]
        exact h2.append hcs
      · rw [if_neg hk] at hlen hflat
        refine ⟨_, rfl, .inl ⟨rfl, ws, sq_of h1⟩, _, rfl, fl, ws, _, rfl, rfl, h1, sz_lt (by rw [List.length_singleton] at hlen; omega), _, _, rfl, e1.mut hfl, upd_same, ?_⟩
        rw [hflat]
        exact h2.append (.one hA)
    · obtain ⟨y, ws, rfl, e1, h1, h2⟩ := hp
      rw [List.take_of_length_le (by rw [hc.length]; exact Nat.le_refl _)] at h2
      exact ⟨_, rfl, q fl ws H' hfl e1 h1 h2⟩
theorem ok_without_repeats (T : Txt K mg AA) : Pr P w K mg base "without_repeats" s_without_repeats p_without_repeats 4 (spDd K AA.Circle) := by
  refine pr_mk T.f_without_repeats sc_without_repeats (fun vs H Q E h => ?_) (fun f cdv A outer s H vs Q E hr h => ?_)
  · obtain ⟨l, us, cs, rfl, _⟩ := h
    rfl
  · obtain ⟨l, us, cs, rfl, hl, hc, hn, hz, q⟩ := h
    refine ⟨_, (pss_cons (ps_set (i := 1) sc_without_repeats.nd rfl (.inl rfl) pe_dnewK)
      (pss_cons (ps_for PassesOwn.never rfl (pi_list (pv 0)) (pg_name (i := 2) sc_without_repeats.nd rfl (.inl rfl))
      (pss_cons (ps_set (i := 3) sc_without_repeats.nd rfl (.inl rfl) (pe_callTy (call_strOwn (ok_Circle___str T) hr) (by rfl) T.n_str PyProof.Rows.boot_str (pa_cons (pv 2) pa_nil)))
      (pss_one (ps_if (pt_cmp (pc_dnotin (hu_of hr) (pv 3) (pv 1)))
      (pss_one (ps_dput (hu_of hr) (pv 1) (pv 3) (pv 2) rfl))
      pss_nil))))
      (pss_one (ps_ret (pe_listVals rfl (pv 1) (by rfl) T.n_list))))), ?_⟩
    refine fun d hd => ?_
    refine ⟨_, rfl, l, rfl, ⟨us, ex_l (Ex.new hd) hl⟩, for_list (xs := us) (fun i σ H' => ∃ (y z : Option V) (kvs : List (Key × V)), σ = [some (.ref l), some (.ref d), y, z] ∧ Ex H H' ∧ H' d = some (.dK kvs) ∧ kvs.map (·.1) = (dd [] (cs.take i)).map (fun c => Sum.inr c.str) ∧ CisAt AA.Circle H (kvs.map (·.2)) (dd [] (cs.take i))) ⟨none, none, [], rfl, Ex.new hd, upd_same, rfl, .nil⟩ (fun i σ H' _ hp => ?_) (fun i x σ H' hx hp => ?_) (fun σ H' hp => ?_)⟩
    · obtain ⟨y, z, kvs, rfl, e1, h1, h2, h3⟩ := hp
      exact ex_l e1 hl
    · obtain ⟨y, z, kvs, rfl, e1, h1, h2, h3⟩ := hp
      obtain ⟨c, hg, hA⟩ := hc.get hx
      have hzc := hz c (List.mem_of_getElem? hg)
      have hany : (valV kvs (Sum.inr c.str)).isSome = (dd [] (cs.take i)).any (fun d => decide (d.str = c.str)) := by
        rw [← valV_any]
        have e : (kvs.any fun kv => decide (kv.1 = Sum.inr c.str)) = (kvs.map (·.1)).any fun k => decide (k = Sum.inr c.str) := by rw [List.any_map]; rfl
        rw [e, h2, List.any_map]
        refine congrArg (fun f => List.any _ f) (funext fun d => ?_)
        show decide ((Sum.inr d.str : Key) = Sum.inr c.str) = decide (d.str = c.str)
        by_cases h : d.str = c.str
        · rw [decide_eq_true h, h, decide_eq_true rfl]
        · rw [decide_eq_false h, decide_eq_false fun g => h (Sum.inr.inj g)]
      have hdd : dd [] (cs.take (i + 1)) = if (dd [] (cs.take i)).any (fun d => decide (d.str = c.str)) = true then dd [] (cs.take i) else dd [] (cs.take i) ++ [c] := by
        rw [List.take_add_one, hg]
        exact dd_snoc c [] _
      have hlen : kvs.length ≤ i := by
        have e := congrArg List.length h2
        rw [List.length_map, List.length_map] at e
        have := dd_len (acc := []) (cs := cs.take i)
        rw [List.length_take, List.length_nil] at this
        omega
      have hi : i < us.length := (List.getElem?_eq_some_iff.mp hx).1
      have hcl := hc.length
      obtain ⟨p, dx, lp, vs2, rfl, hp, hlp, hcs⟩ := hA.at_
      refine ⟨_, rfl, p, dx, _, rfl, e1 _ _ hp, _, c, rfl, hA.mono e1, by omega, fun H2 ex => ⟨_, rfl, _, rfl, _, rfl, d, _, rfl, .k (k := Sum.inr c.str) (ex _ _ h1), _, rfl, ?_⟩⟩
      rw [hany]
      refine ite2 (fun hb => ?_) (fun hb => ?_)
      · have hb : (dd [] (cs.take i)).any (fun d => decide (d.str = c.str)) = false := by
          cases g : (dd [] (cs.take i)).any (fun d => decide (d.str = c.str)) with
          | false => rfl
          | true => rw [g] at hb; cases hb
        have hv : valV kvs (Sum.inr c.str) = none := by
          rw [hb] at hany
          cases g : valV kvs (Sum.inr c.str) with
          | none => rfl
          | some v => rw [g] at hany; cases hany
        rw [hb, if_neg (by decide)] at hdd
        refine ⟨_, rfl, _, rfl, _, rfl, d, _, rfl, .k (k := Sum.inr c.str) (ex _ _ h1) (sz_lt (by omega)), _, _, _, rfl, (e1.trans ex).mut hd, upd_same, ?_, ?_⟩
        · rw [putK_new _ hv, List.map_append, h2, hdd, List.map_append]
          rfl
        · rw [putK_new _ hv, List.map_append, hdd]
          exact h3.append (.one hA)
      · have hb : (dd [] (cs.take i)).any (fun d => decide (d.str = c.str)) = true := by
          cases g : (dd [] (cs.take i)).any (fun d => decide (d.str = c.str)) with
          | true => rfl
          | false => rw [g] at hb; exact absurd rfl hb
        rw [if_pos hb] at hdd
        refine ⟨_, _, kvs, rfl, e1.trans ex, ex _ _ h1, ?_, ?_⟩
        · rw [hdd]
          exact h2
        · rw [hdd]
          exact h3
    · obtain ⟨y, z, kvs, rfl, e1, h1, h2, h3⟩ := hp
      rw [List.take_of_length_le (by rw [hc.length]; exact Nat.le_refl _)] at h3
      refine ⟨_, rfl, d, kvs, rfl, h1, fun l2 hl2 => ?_⟩
      exact q l2 _ _ (fresh_back e1 hl2) (e1.trans (Ex.new hl2)) upd_same h3
end
end Eyes

set_option Elab.async false
set_option linter.all false
set_option maxRecDepth 100000
set_option maxHeartbeats 4000000
namespace Eyes
open PySem PySem.Spec PyProof.Rows L2 Evl TL
def spInit (K : PySem.W.Frag) (C : Addr) : Sp := fun vs H Q _ => ∃ (x dx l : Addr) (us : List V) (c : Ci) (G : Hp), vs = [.ref x, .str c.kind, .str c.name, .ref l] ∧ G x = none ∧ Ex G H ∧ H x = some (.ins C dx []) ∧ SqL K G l us ∧ CisAt C G us c.parts ∧ us.length ≤ 900 ∧ (∀ d ∈ c.parts, d.str.length ≤ 900) ∧ (∀ k, c ≠ .node k []) ∧
  ∀ H', Ex G H' → CiAt C H' (.ref x) c → Q .non H'
theorem ex_both {G H : Hp} {p : Addr} {o : HO} (e : Ex G H) : Ex (upd G p o) (upd H p o) := fun a u h => by
  by_cases ha : a = p
  · subst ha
    rw [upd_same] at h ⊢
    exact h
  · rw [upd_ne ha] at h ⊢
    exact e a u h
section
variable {P : Program} {w : World} {K : PySem.W.Frag} {mg : Str → Option Value} {base : Heap} {AA : Adr}
theorem ok_Circle___init (T : Txt K mg AA) : PrI P w K mg base AA.Circle p_Circle___init 4 (spInit K AA.Circle) := by
  refine pri_mk T.i_Circle sc_Circle___init (fun vs H Q E h => ?_) (fun f cdv A outer s H vs Q E hr h => ?_)
  · obtain ⟨x, dx, l, us, c, G, rfl, _⟩ := h
    rfl
  · obtain ⟨x, dx, l, us, c, G, rfl, hG, ex, hx, hl, hc, hn, hz, hnk, q⟩ := h
    refine ⟨_, (pss_cons (ps_fld (pv 0) (pv 1) rfl)
      (pss_cons (ps_fld (pv 0) (pv 2) rfl)
      (pss_cons (ps_fld (pv 0) (pe_callTy call_list_of (by rfl) T.n_list PyProof.Rows.boot_list (pa_cons (pv 3) pa_nil)) rfl)
      (pss_one (ps_if (pt_cmpR op_eq (pv 1) pe_str (nomark _))
      (pss_cons (ps_fld (pv 0) pe_int rfl)
      (pss_cons (ps_fld (pv 0) pe_int rfl)
      (pss_one (ps_fld (pv 0) (pv 2) rfl))))
      (pss_cons (ps_fld (pv 0) (pcall (ok_size_of T) hr (pa_cons (pv 3) pa_nil)) rfl)
      (pss_cons (ps_fld (pv 0) (pcall (ok_depth_over T) hr (pa_cons (pv 3) pa_nil)) rfl)
      (pss_one (ps_fld (pv 0) (pcall (ok_text_of T) hr (pa_cons (pv 1) (pa_cons (pv 3) pa_nil))) rfl))))))))), ?_⟩
    -- kind, name
    refine ⟨_, rfl, _, rfl, x, AA.Circle, dx, _, rfl, hx, T.c_Circle, T.a_Circle_kind, by decide, ?_⟩
    refine ⟨_, rfl, _, rfl, x, AA.Circle, dx, _, rfl, upd_same, T.c_Circle, T.a_Circle_name, by show 1 < 1000; decide, ?_⟩
    have e1 := ex.mut (o := .ins AA.Circle dx (putF "kind" (.str c.kind) [])) hG
    have e2 := e1.mut (o := .ins AA.Circle dx (putF "name" (.str c.name) (putF "kind" (.str c.kind) []))) hG
    have hx2 : (upd (upd H x (.ins AA.Circle dx (putF "kind" (.str c.kind) []))) x (.ins AA.Circle dx (putF "name" (.str c.name) (putF "kind" (.str c.kind) [])))) x = some (.ins AA.Circle dx (putF "name" (.str c.name) (putF "kind" (.str c.kind) []))) := upd_same
    revert e2 hx2
    generalize (upd (upd H x (.ins AA.Circle dx (putF "kind" (.str c.kind) []))) x (.ins AA.Circle dx (putF "name" (.str c.name) (putF "kind" (.str c.kind) [])))) = H2
    intro e2 hx2
    refine ⟨_, rfl, l, us, rfl, .inl (ex_l e2 hl), fun l2 hl2 => ?_⟩
    have hne : x ≠ l2 := ne_of_none hx2 hl2
    have hxl : (upd H2 l2 (.lst us)) x = some (.ins AA.Circle dx (putF "name" (.str c.name) (putF "kind" (.str c.kind) []))) := (upd_ne hne).trans hx2
    have hG2 : (upd G l2 (.lst us)) x = none := (upd_ne hne).trans hG
    have e3 : Ex (upd G l2 (.lst us)) (upd H2 l2 (.lst us)) := ex_both e2
    have eG : Ex G (upd G l2 (.lst us)) := Ex.new (fresh_back e2 hl2)
    refine ⟨_, rfl, x, AA.Circle, dx, _, rfl, hxl, T.c_Circle, T.a_Circle_parts, by show 2 < 1000; decide, ?_⟩
    have e4 := e3.mut (o := .ins AA.Circle dx (putF "_parts" (.ref l2) (putF "name" (.str c.name) (putF "kind" (.str c.kind) [])))) hG2
    have hx4 : (upd (upd H2 l2 (.lst us)) x (.ins AA.Circle dx (putF "_parts" (.ref l2) (putF "name" (.str c.name) (putF "kind" (.str c.kind) []))))) x = some (.ins AA.Circle dx (putF "_parts" (.ref l2) (putF "name" (.str c.name) (putF "kind" (.str c.kind) [])))) := upd_same
    revert e4 hx4
    generalize (upd (upd H2 l2 (.lst us)) x (.ins AA.Circle dx (putF "_parts" (.ref l2) (putF "name" (.str c.name) (putF "kind" (.str c.kind) []))))) = H4
    intro e4 hx4
    generalize hG2e : upd G l2 (.lst us) = G2 at e3 e4 eG hG2
    have hl2G : G2 l2 = some (.lst us) := by rw [← hG2e]; exact upd_same
    refine ⟨_, rfl, rfl, _, rfl, ?_⟩
    have fin : ∀ H', Ex G2 H' → H' x = some (.ins AA.Circle dx (flds c.kind c.name l2 c.size c.depth c.str)) → Q .non H' := fun H' e h =>
      q H' (eG.trans e) (.mk rfl h (e _ _ hl2G) (hc.mono (eG.trans e)))
    cases c with
    | eye n =>
      refine iteT ?_
      refine ⟨_, rfl, x, AA.Circle, dx, _, rfl, hx4, T.c_Circle, T.a_Circle_size, by show 3 < 1000; decide, ?_⟩
      refine ⟨_, rfl, x, AA.Circle, dx, _, rfl, upd_same, T.c_Circle, T.a_Circle_depth, by show 4 < 1000; decide, ?_⟩
      refine ⟨_, rfl, _, rfl, x, AA.Circle, dx, _, rfl, upd_same, T.c_Circle, T.a_Circle_text, by show 5 < 1000; decide, ?_⟩
      refine fin _ (((e4.mut hG2).mut hG2).mut hG2) ?_
      rw [upd_same]
      rfl
    | node k ps =>
      have e : decide ((V.str (kindS k)) = V.str "eye") = false := decide_eq_false fun h => kindS_eye k (V.str.inj h)
      have e2 : (decide ((V.str (Ci.node k ps).kind) = V.str (Str.ofString "eye"))) = false := e
      rw [e2]
      refine iteF ?_
      have hc4 := hc.mono (eG.trans e4)
      have hne0 : ps ≠ [] := fun h => hnk k (by rw [h])
      refine ⟨_, rfl, l, us, ps, rfl, ex_l (eG.trans e4) hl, hc4, by omega, True.intro, fun H5 e5 => ⟨_, rfl, x, AA.Circle, dx, _, rfl, e5 _ _ hx4, T.c_Circle, T.a_Circle_size, by show 3 < 1000; decide, ?_⟩⟩
      have e6 := (e4.trans e5).mut (o := .ins AA.Circle dx (putF "size" (.int (sizes ps)) (putF "_parts" (.ref l2) (putF "name" (.str (Ci.node k ps).name) (putF "kind" (.str (Ci.node k ps).kind) []))))) hG2
      refine ⟨_, rfl, l, us, ps, rfl, ex_l (eG.trans e6) hl, hc.mono (eG.trans e6), by omega, hne0, fun H7 e7 => ⟨_, rfl, x, AA.Circle, dx, _, rfl, e7 _ _ upd_same, T.c_Circle, T.a_Circle_depth, by show 4 < 1000; decide, ?_⟩⟩
      have e8 := (e6.trans e7).mut (o := .ins AA.Circle dx (putF "depth" (.int (1 + (depths ps : Int))) (putF "size" (.int (sizes ps)) (putF "_parts" (.ref l2) (putF "name" (.str (Ci.node k ps).name) (putF "kind" (.str (Ci.node k ps).kind) [])))))) hG2
      refine ⟨_, rfl, _, rfl, l, us, k, ps, rfl, ex_l (eG.trans e8) hl, hc.mono (eG.trans e8), hn, hz, fun H9 e9 => ⟨_, rfl, x, AA.Circle, dx, _, rfl, e9 _ _ upd_same, T.c_Circle, T.a_Circle_text, by show 5 < 1000; decide, ?_⟩⟩
      refine fin _ ((e8.trans e9).mut hG2) ?_
      rw [upd_same]
      have hdep : ((Ci.node k ps).depth : Int) = 1 + (depths ps : Int) := by
        show ((1 + depths ps : Nat) : Int) = _
        omega
      rw [hdep]
      rfl
end
end Eyes

set_option Elab.async false
set_option linter.all false
set_option maxRecDepth 100000
set_option maxHeartbeats 4000000
namespace Eyes
open PySem PySem.Spec PyProof.Rows L2 Evl TL
theorem kit_self {K : PySem.W.Frag} {C : Addr} : PySem.W.kitOne K (.ref C) (.ref C) = some true := by
  unfold PySem.W.kitOne
  have e : (Value.ref C == Value.ref C) = true := by simp
  rw [e]
  rfl
def spBuilt (K : PySem.W.Frag) (C : Addr) : Sp := fun vs H Q _ => ∃ (l : Addr) (us : List V) (k : Bool) (cs : List Ci), vs = [.str (kindS k), .ref l] ∧ SqLT K H l us ∧ CisAt C H us cs ∧ Good k cs ∧ ∀ v H', Ex H H' → CiAt C H' v (mkC k cs) → Q v H'
def spSign (C : Addr) (k : Bool) : Sp := fun vs H Q _ => ∃ (x y : V) (c d : Ci), vs = [x, y] ∧ CiAt C H x c ∧ CiAt C H y d ∧ Good k [c, d] ∧ ∀ v H', Ex H H' → CiAt C H' v (mkC k [c, d]) → Q v H'
section
variable {P : Program} {w : World} {K : PySem.W.Frag} {mg : Str → Option Value} {base : Heap} {AA : Adr}
theorem ok_built (T : Txt K mg AA) : Pr P w K mg base "built" s_built p_built 6 (spBuilt K AA.Circle) := by
  refine pr_mk T.f_built sc_built (fun vs H Q E h => ?_) (fun f cdv A outer s H vs Q E hr h => ?_)
  · obtain ⟨l, us, k, cs, rfl, _⟩ := h
    rfl
  · obtain ⟨l, us, k, cs, rfl, hl, hc, g, q⟩ := h
    refine ⟨_, (pss_cons (ps_set (i := 2) sc_built.nd rfl (.inl rfl) (pcall (ok_without_repeats T) hr (pa_cons (pcall (ok_flattened T) hr (pa_cons (pv 0) (pa_cons (pv 1) pa_nil))) pa_nil)))
      (pss_cons (ps_if (pt_cmpR op_eq (pe_callB (call_len_seqK (K := K) rfl) (by rfl) T.n_len PySem.boot_len (pa_cons (pv 2) pa_nil)) pe_int (nomark _))
      (pss_one (ps_ret (pe_ix (ix_listK (K := K) rfl) (pv 2) pe_int (fun _ _ => rfl))))
      pss_nil)
      (pss_cons (ps_if (pt_cmpR op_gt (pcall (ok_size_of T) hr (pa_cons (pv 2) pa_nil)) (ClX.pe_cval (pe_glob (v := .ref AA.Circle) (by rfl) T.m_Circle rfl)) (nomark _))
      pss_never
      pss_nil)
      (pss_cons (ps_if (pt_cmpR op_gt (pcall (ok_depth_over T) hr (pa_cons (pv 2) pa_nil)) (pgI T.m_MOST_DEPTH) (nomark _))
      pss_never
      pss_nil)
      (pss_one (ps_ret (pmake T.m_Circle (ok_Circle___init T) hr (pa_cons (pv 0) (pa_cons pe_str (pa_cons (pv 2) pa_nil)))))))))), ?_⟩
    have hfl := g.flat_len
    refine ⟨_, rfl, _, rfl, l, us, k, cs, rfl, hl, hc, by omega, fun l2 ws H1 hl2 e1 h2 hc2 => ?_⟩
    refine ⟨l2, ws, flat k cs, rfl, sq_of h2, hc2.mono e1, by omega, fun c hc => by have := fine_len (flat_fine g.fine c hc); omega, fun l3 ws3 H3 hl3 e3 h3 hc3 => ?_⟩
    have e13 := e1.trans e3
    have hc3 := hc3.mono e3
    have hlen3 : ws3.length ≤ 60000 := by
      have h4 := hc3.length
      have h5 := dd_len (acc := []) (cs := flat k cs)
      rw [List.length_nil] at h5
      omega
    refine ⟨_, rfl, l3, ws3, rfl, .inl (sq_of h3), rfl, _, rfl, ?_⟩
    have hpl : ws3.length = (pts k cs).length := hc3.length
    have hp60 : (pts k cs).length ≠ 1 → (sizes (pts k cs) ≤ 60 ∧ depths (pts k cs) ≤ 19) := fun h => by
      have h1 := g.size
      have h2 := g.depth
      rw [mkC_more h] at h1 h2
      have h1 : sizes (pts k cs) ≤ 60 := h1
      have h2 : 1 + depths (pts k cs) ≤ 20 := h2
      omega
    refine ite2 (fun h => ?_) (fun h => ?_)
    · have h : (V.int (ws3.length : Nat)) = V.int 1 := of_decide_eq_true h
      have h : ((ws3.length : Nat) : Int) = 1 := V.int.inj h
      obtain ⟨c, hc1⟩ := List.length_eq_one_iff.mp (show (pts k cs).length = 1 by omega)
      obtain ⟨v, hv⟩ := List.length_eq_one_iff.mp (show ws3.length = 1 by omega)
      subst hv
      refine ⟨_, rfl, l3, [v], 0, v, rfl, rfl, sq_of h3, rfl, ?_⟩
      have hc4 : CisAt AA.Circle H3 [v] (pts k cs) := hc3
      rw [hc1] at hc4
      have hv : CiAt AA.Circle H3 v c := by
        cases hc4 with
        | cons h _ => exact h
      refine q v H3 e13 ?_
      rw [mkC_one hc1]
      exact hv
    · have h1 : (pts k cs).length ≠ 1 := fun z => h (decide_eq_true (by rw [hpl, z]; rfl))
      obtain ⟨hs60, hd19⟩ := hp60 h1
      have hne := g.pts_ne
      have hfine := g.pts_fine
      have hpn : (pts k cs).length ≤ 60 := Nat.le_trans (sizes_len _ (oks_mem.mpr fun c hc => (hfine c hc).1)) hs60
      refine ⟨_, rfl, l3, ws3, pts k cs, rfl, sq_of h3, hc3, by omega, True.intro, fun H4 e4 => ?_⟩
      obtain ⟨tk, hcr, hcv⟩ := T.k_Circle_LIMIT
      refine ⟨AA.Circle, _, _, _, rfl, hcr, hcv, _, _, rfl, rfl, _, rfl, ?_⟩
      have hf1 : decide ((60 : Int) < (sizes (pts k cs) : Int)) = false := decide_eq_false (by omega)
      rw [hf1]
      refine iteF ?_
      refine ⟨_, rfl, l3, ws3, pts k cs, rfl, sq_of (e4 _ _ h3), hc3.mono e4, by omega, hne, fun H5 e5 => ⟨_, _, rfl, rfl, _, rfl, ?_⟩⟩
      have hf2 : decide ((20 : Int) < 1 + (depths (pts k cs) : Int)) = false := decide_eq_false (by omega)
      rw [hf2]
      refine iteF ?_
      have e45 := e4.trans e5
      refine ⟨_, rfl, _, rfl, fun x dx hx hdx hne2 => ?_⟩
      have eX : Ex H5 (upd (upd H5 dx (.own x)) x (.ins AA.Circle dx [])) := (Ex.new hdx).trans (Ex.new ((upd_ne (Ne.symm hne2)).trans hx))
      refine ⟨x, dx, l3, ws3, .node k (pts k cs), H5, rfl, hx, eX, upd_same, sq_of (e45 _ _ h3), hc3.mono e45, by omega, fun c hc => by have := fine_len (hfine c hc); omega, fun j hj => hne (by injection hj), fun H6 e6 hA => ⟨rfl, ?_⟩⟩
      refine q _ H6 ((e13.trans e45).trans e6) ?_
      rw [mkC_more h1]
      exact hA
theorem ok_Circle___and (T : Txt K mg AA) : PrM P w K mg base AA.Circle "__and__" p_Circle___and 7 (spSign AA.Circle true) := by
  refine prm_mk T.t_Circle___and sc_Circle___and (fun vs H Q E h => ?_) (fun f cdv A outer s H vs Q E hr h => ?_)
  · obtain ⟨x, y, c, d, rfl, _⟩ := h
    rfl
  · obtain ⟨x, y, c, d, rfl, hx, hy, g, q⟩ := h
    refine ⟨_, (pss_cons (ps_if (pt_not (pt_val (pe_callB (call_isiK (K := K) rfl) (by rfl) T.n_isinstance PyProof.Rows.boot_isinstance (pa_cons (pv 1) (pa_cons (pe_glob (v := .ref AA.Circle) (by rfl) T.m_Circle rfl) pa_nil)))))
      pss_never
      pss_nil)
      (pss_one (ps_ret (pcall (ok_built T) hr (pa_cons pe_str (pa_cons (pe_lst (pa_cons (pv 0) (pa_cons (pv 1) pa_nil))) pa_nil)))))), ?_⟩
    obtain ⟨p, dx, lp, vs2, rfl, hp, hlp, hcs⟩ := hy.at_
    refine ⟨_, rfl, _, _, _, _, _, rfl, .own _, .base (.ins hp T.c_Circle T.y_Circle.ty1 T.y_Circle.ty2 T.y_Circle.ty3 T.y_Circle.ty4), kit_self, _, rfl, ?_⟩
    refine iteF ?_
    refine ⟨_, rfl, _, rfl, by show 2 ≤ sizeLine; decide, fun l hl => ⟨l, _, true, [c, d], rfl, .inl (sq_of upd_same), (CisAt.cons hx (.one hy)).mono (Ex.new hl), g, fun v H' e hv => q v H' ((Ex.new hl).trans e) hv⟩⟩
theorem ok_Circle___or (T : Txt K mg AA) : PrM P w K mg base AA.Circle "__or__" p_Circle___or 7 (spSign AA.Circle false) := by
  refine prm_mk T.t_Circle___or sc_Circle___or (fun vs H Q E h => ?_) (fun f cdv A outer s H vs Q E hr h => ?_)
  · obtain ⟨x, y, c, d, rfl, _⟩ := h
    rfl
  · obtain ⟨x, y, c, d, rfl, hx, hy, g, q⟩ := h
    refine ⟨_, (pss_cons (ps_if (pt_not (pt_val (pe_callB (call_isiK (K := K) rfl) (by rfl) T.n_isinstance PyProof.Rows.boot_isinstance (pa_cons (pv 1) (pa_cons (pe_glob (v := .ref AA.Circle) (by rfl) T.m_Circle rfl) pa_nil)))))
      pss_never
      pss_nil)
      (pss_one (ps_ret (pcall (ok_built T) hr (pa_cons pe_str (pa_cons (pe_lst (pa_cons (pv 0) (pa_cons (pv 1) pa_nil))) pa_nil)))))), ?_⟩
    obtain ⟨p, dx, lp, vs2, rfl, hp, hlp, hcs⟩ := hy.at_
    refine ⟨_, rfl, _, _, _, _, _, rfl, .own _, .base (.ins hp T.c_Circle T.y_Circle.ty1 T.y_Circle.ty2 T.y_Circle.ty3 T.y_Circle.ty4), kit_self, _, rfl, ?_⟩
    refine iteF ?_
    refine ⟨_, rfl, _, rfl, by show 2 ≤ sizeLine; decide, fun l hl => ⟨l, _, false, [c, d], rfl, .inl (sq_of upd_same), (CisAt.cons hx (.one hy)).mono (Ex.new hl), g, fun v H' e hv => q v H' ((Ex.new hl).trans e) hv⟩⟩
end
end Eyes

set_option Elab.async false
set_option linter.all false
set_option maxRecDepth 100000
set_option maxHeartbeats 4000000
namespace Eyes
open PySem PySem.Spec PyProof.Rows L2 Evl TL
theorem Rep.node {H : Hp} {v : V} {c : Ci} (h : Rep H v c.data) : ∃ (a : Addr) (x : V), v = .ref a ∧ H a = some (.tup [.str c.kind, x]) ∧ (∀ n, c = .eye n → x = .str n) ∧ (∀ k ps, c = .node k ps → ∃ b ws, x = .ref b ∧ H b = some (.tup ws) ∧ Reps H ws (datas ps)) := by
  cases c with
  | eye n =>
    have h : Rep H v (.tuple [.str "eye", .str n]) := h
    cases h with
    | tup h r =>
      cases r with
      | cons h1 r =>
        cases r with
        | cons h2 r =>
          cases r
          cases h1
          cases h2
          exact ⟨_, _, rfl, h, fun m e => (by injection e with e; rw [e]), fun k ps e => (by cases e)⟩
  | node k ps =>
    have h : Rep H v (.tuple [.str (kindS k), .tuple (datas ps)]) := h
    cases h with
    | tup h r =>
      cases r with
      | cons h1 r =>
        cases r with
        | cons h2 r =>
          cases r
          cases h1
          cases h2 with
          | tup h3 r3 => exact ⟨_, _, rfl, h, fun m e => (by cases e), fun j qs e => (by injection e with e1 e2; rw [← e2]; exact ⟨_, _, rfl, h3, r3⟩)⟩
theorem Reps.getC {H : Hp} {us : List V} {cs : List Ci} {i : Nat} {v : V} (h : Reps H us (datas cs)) (hv : us[i]? = some v) : ∃ c, cs[i]? = some c ∧ Rep H v c.data := by
  obtain ⟨d, h1, h2⟩ := h.get hv
  rw [datas_map, List.getElem?_map] at h1
  obtain ⟨c, hc, rfl⟩ := Option.map_eq_some_iff.mp h1
  exact ⟨c, hc, h2⟩
theorem Reps.lengthC {H : Hp} {us : List V} {cs : List Ci} (h : Reps H us (datas cs)) : us.length = cs.length := by
  rw [h.length, datas_map, List.length_map]
theorem datas_append (a b : List Ci) : datas (a ++ b) = datas a ++ datas b := by rw [datas_map, datas_map, datas_map, List.map_append]
theorem Reps.append {H : Hp} : ∀ {us ws : List V} {cs ds : List PyData}, Reps H us cs → Reps H ws ds → Reps H (us ++ ws) (cs ++ ds)
  | _, _, _, _, .nil, s => s
  | _, _, _, _, .cons h r, s => .cons h (Reps.append r s)
mutual
theorem Rep.dp {K : PySem.W.Frag} {H : Hp} : ∀ {v : V} {d : PyData}, Rep H v d → Dp K H v d
  | _, _, .non => .non
  | _, _, .bl b => .bl b
  | _, _, .int i => .int i
  | _, _, .str x => .str x
  | _, _, .lst h r => .lst (sq_of h) (Reps.dp r)
  | _, _, .tup h r => .tup (st_of h) (Reps.dp r)
theorem Reps.dp {K : PySem.W.Frag} {H : Hp} : ∀ {v : List V} {d : List PyData}, Reps H v d → DpAll K H v d
  | _, _, .nil => .nil
  | _, _, .cons h r => .cons (Rep.dp h) (Reps.dp r)
end
section
variable {P : Program} {w : World} {K : PySem.W.Frag} {mg : Str → Option Value} {base : Heap} {AA : Adr}
def spJoin (K : PySem.W.Frag) : Sp := fun vs H Q _ => ∃ (l : Addr) (us : List V) (k : Bool) (cs : List Ci), vs = [.str (kindS k), .ref l] ∧ SqL K H l us ∧ Reps H us (datas cs) ∧ (∀ c ∈ cs, c.ok) ∧ (∀ c ∈ cs, c.depth ≤ 25) ∧ (flat k cs).length ≤ 90000 ∧ ∀ v H', Ex H H' → Rep H' v (mkC k cs).data → Q v H'
end
end Eyes

set_option Elab.async false
set_option linter.all false
set_option maxRecDepth 100000
set_option maxHeartbeats 4000000
namespace Eyes
open PySem PySem.Spec PyProof.Rows L2 Evl
theorem kw_meet_of_0_second_first : KwOk "meet_of" s_meet_of p_meet_of 0 ["second", "first"] [1, 0] := fun _ _ _ _ _ _ us ws h1 h2 => match us, ws, h1, h2 with | [], [_, _], _, _ => rfl
theorem kw_join_of_0_second_first : KwOk "join_of" s_join_of p_join_of 0 ["second", "first"] [1, 0] := fun _ _ _ _ _ _ us ws h1 h2 => match us, ws, h1, h2 with | [], [_, _], _, _ => rfl
theorem kw_is_within_0_second_first : KwOk "is_within" s_is_within p_is_within 0 ["second", "first"] [1, 0] := fun _ _ _ _ _ _ us ws h1 h2 => match us, ws, h1, h2 with | [], [_, _], _, _ => rfl
theorem kw_parting_of_0_pairs_many : KwOk "parting_of" s_parting_of p_parting_of 0 ["pairs", "many"] [1, 0] := fun _ _ _ _ _ _ us ws h1 h2 => match us, ws, h1, h2 with | [], [_, _], _, _ => rfl
theorem kw_together_0_many : KwOk "together" s_together p_together 0 ["many"] [0] := fun _ _ _ _ _ _ us ws h1 h2 => match us, ws, h1, h2 with | [], [_], _, _ => rfl
theorem kw_lots_of_0_parting : KwOk "lots_of" s_lots_of p_lots_of 0 ["parting"] [0] := fun _ _ _ _ _ _ us ws h1 h2 => match us, ws, h1, h2 with | [], [_], _, _ => rfl
theorem kw_is_parting_0_value : KwOk "is_parting" s_is_parting p_is_parting 0 ["value"] [0] := fun _ _ _ _ _ _ us ws h1 h2 => match us, ws, h1, h2 with | [], [_], _, _ => rfl
theorem kw_apart_0_many : KwOk "apart" s_apart p_apart 0 ["many"] [0] := fun _ _ _ _ _ _ us ws h1 h2 => match us, ws, h1, h2 with | [], [_], _, _ => rfl
abbrev letters : Str := "abcdefghijklmnopqrstuvwxyz"
/-! ### values of all kinds -/
inductive Tk where
  | s (z : Str) | i (n : Int) | b (c : Bool) | o
def okS (z : Str) : Prop := z.length ≤ 1000 ∧ ∀ c ∈ z.cps.toList, c < 128
def Knd (K : PySem.W.Frag) (H : Hp) (v : V) : Tk → Prop
  | .s z => v = .str z ∧ okS z
  | .i n => v = .int n
  | .b c => v = .bl c
  | .o => ∃ t, TyX K H v t ∧ PySem.W.kitOne K t (.type "str") = some false ∧ PySem.W.kitOne K t (.type "int") = some false ∧ PySem.W.kitOne K t (.type "bool") = some false
theorem TyX.mono {K : PySem.W.Frag} {H H' : Hp} {v : V} {t : Value} (e : Ex H H') (h : TyX K H v t) : TyX K H' v t := by
  cases h with
  | base h =>
    cases h with
    | non => exact .base .non
    | bl b => exact .base (.bl b)
    | int b => exact .base (.int b)
    | str b => exact .base (.str b)
    | flt b => exact .base (.flt b)
    | lst h => exact .base (.lst (e _ _ h))
    | frz h => exact .base (.frz (e _ _ h))
    | tup h => exact .base (.tup (e _ _ h))
    | dK h => exact .base (.dK (e _ _ h))
    | dT h => exact .base (.dT (e _ _ h))
    | ins h h1 h2 h3 h4 h5 => exact .base (.ins (e _ _ h) h1 h2 h3 h4 h5)
  | byt b => exact .byt b
  | set h => exact .set (e _ _ h)
  | kList h c => exact .kList h c
  | kTuple h c => exact .kTuple h c
  | kDict h c => exact .kDict h c
  | fTuple h => exact .fTuple (e _ _ h)
  | fDict h => exact .fDict (e _ _ h)
theorem Knd.mono {K : PySem.W.Frag} {H H' : Hp} {v : V} {k : Tk} (e : Ex H H') (h : Knd K H v k) : Knd K H' v k := by
  cases k with
  | s z => exact h
  | i n => exact h
  | b c => exact h
  | o => obtain ⟨t, h1, h2⟩ := h; exact ⟨t, TyX.mono e h1, h2⟩
def isS : Tk → Bool | .s _ => true | _ => false
def isI : Tk → Bool | .i _ => true | .b _ => true | _ => false
def isB : Tk → Bool | .b _ => true | _ => false
theorem Knd.ty {K : PySem.W.Frag} {H : Hp} {v : V} {k : Tk} (h : Knd K H v k) : ∃ t, TyX K H v t ∧ PySem.W.kitOne K t (.type "str") = some (isS k) ∧ PySem.W.kitOne K t (.type "int") = some (isI k) ∧ PySem.W.kitOne K t (.type "bool") = some (isB k) := by
  cases k with
  | s z => obtain ⟨rfl, _⟩ := h; exact ⟨_, .base (.str z), kit_ty (r := true) (by decide +kernel), kit_ty (r := false) (by decide +kernel), kit_ty (r := false) (by decide +kernel)⟩
  | i n => cases h; exact ⟨_, .base (.int n), kit_ty (r := false) (by decide +kernel), kit_ty (r := true) (by decide +kernel), kit_ty (r := false) (by decide +kernel)⟩
  | b c => cases h; exact ⟨_, .base (.bl c), kit_ty (r := false) (by decide +kernel), kit_ty (r := true) (by decide +kernel), kit_ty (r := true) (by decide +kernel)⟩
  | o => exact h
def nameS (z : Str) : Bool := decide (1 ≤ z.length) && decide (z.length ≤ 6) && z.cps.toList.all fun c => decide (c ∈ letters.cps.toList)
def nameK : Tk → Bool | .s z => nameS z | _ => false
def numK (lo hi : Int) : Tk → Bool | .i n => decide (lo ≤ n) && decide (n ≤ hi) | _ => false
def spName (K : PySem.W.Frag) : Sp := fun vs H Q _ => ∃ (v : V) (k : Tk), vs = [v] ∧ Knd K H v k ∧ ∀ H', Ex H H' → Q (.bl (nameK k)) H'
def spNum (K : PySem.W.Frag) : Sp := fun vs H Q _ => ∃ (v : V) (k : Tk) (lo hi : Int), vs = [v, .int lo, .int hi] ∧ Knd K H v k ∧ Q (.bl (numK lo hi k)) H
section
variable {P : Program} {w : World} {K : PySem.W.Frag} {mg : Str → Option Value} {base : Heap} {AA : Adr}
theorem ok_is_name (T : Txt K mg AA) : Pr P w K mg base "is_name" s_is_name p_is_name 1 (spName K) := by
  refine pr_mk T.f_is_name sc_is_name (fun vs H Q E h => ?_) (fun f cdv A outer s H vs Q E hr h => ?_)
  · obtain ⟨v, k, rfl, _⟩ := h
    rfl
  · obtain ⟨v, k, rfl, hk, q⟩ := h
    obtain ⟨t, ht, hs, hi, hb⟩ := hk.ty
    refine ⟨_, (pss_cons (ps_if (PW.pt (pw_or (pt_not (pt_val (pe_callB (call_isiK (K := K) rfl) (by rfl) T.n_isinstance PyProof.Rows.boot_isinstance (pa_cons (pv 0) (pa_cons (pe_bltn (v := .ty "str") (by rfl) T.n_str (by decide +kernel) rfl) pa_nil))))) (pw_or1 (pt_not (pt_chain op_le op_le pe_int (pe_callB call_len_str (by rfl) T.n_len PySem.boot_len (pa_cons (pv 0) pa_nil)) (pgI T.m_MOST_LETTERS))))))
      (pss_one (ps_ret pe_bl))
      pss_nil)
      (pss_one (ps_ret (pe_callB (cr_all rfl) (by rfl) T.n_all PyProof.Rows.boot_all (pa_cons (pe_lc (own := [("letter", 1)]) (g := gName 1) (tt := tYes) rfl sc_is_name.nd (pi_str (pv 0)) (blkOk_by (own := [("letter", 1)]) (N := n_is_name) (sc := defScope s_is_name) (by decide +kernel)) (fun _ _ _ _ _ => (pg_name (i := 1) sc_is_name.nd rfl (.inl rfl))) (fun _ _ _ _ _ => pts_nil) (fun _ _ _ _ _ => (pe_cmpR op_in_sign (pv 1) (pgS T.m_LETTERS) rfl))) pa_nil))))), ?_⟩
    refine ⟨_, rfl, v, .ty "str", _, _, _, rfl, .ty _, ht, hs, _, rfl, ?_⟩
    cases k with
    | s z =>
      obtain ⟨rfl, hz, hz2⟩ := hk
      refine iteF ?_
      -- 1 <= len(value) <= MOST_LETTERS
      refine ⟨_, rfl, z, rfl, sz_of (by omega), 1, z.length, rfl, rfl, _, rfl, ite2 (fun h1 => ?_) (fun h1 => ?_)⟩
      · refine ⟨z.length, 6, rfl, rfl, _, rfl, ?_⟩
        have h1 : 1 ≤ z.length := by have := of_decide_eq_true h1; omega
        by_cases h6 : z.length ≤ 6
        · have e6 : decide (((z.length : Nat) : Int) ≤ 6) = true := decide_eq_true (by omega)
          rw [e6]
          refine iteF ?_
          -- all([letter in LETTERS for letter in value])
          refine ⟨_, rfl, z, rfl, fun D hD => lc_it (walk_str (z := z)) (fun i H' => H D = none ∧ Ex H H' ∧ H' D = some (.lst ((z.cps.toList.take i).map fun c => V.bl (decide (c ∈ letters.cps.toList))))) ⟨hD, Ex.new hD, upd_same⟩ (fun _ _ _ _ => True.intro) (fun i v H3 H4 hi hp hy => ?_) (fun H' hp => ?_)⟩
          · obtain ⟨rfl, c, hc, rfl⟩ := hy
            obtain ⟨h1', h2', h3'⟩ := hp
            refine ⟨rfl, _, rfl, c, letters, rfl, rfl, _, h3', ?_, h1', h2'.mut h1', ?_⟩
            · rw [List.length_map, List.length_take]
              exact sz_lt (by have : z.cps.size = z.length := rfl; omega)
            · have hc' : z.cps.toList[i]? = some c := by rw [Array.getElem?_toList]; exact hc
              rw [upd_same, List.take_add_one, hc', List.map_append]
              rfl
          · refine ⟨D, z.cps.toList.map fun c => decide (c ∈ letters.cps.toList), rfl, sq_of (hp.2.2.trans ?_), ?_⟩
            · rw [List.take_of_length_le (by rw [Array.length_toList]; exact Nat.le_refl _), List.map_map]
              rfl
            · have e : (z.cps.toList.map fun c => decide (c ∈ letters.cps.toList)).all id = nameK (.s z) := by
                show _ = nameS z
                unfold nameS
                rw [decide_eq_true h1, decide_eq_true h6, List.all_map]
                rfl
              rw [e]
              exact q _ hp.2.1
        · have e6 : decide (((z.length : Nat) : Int) ≤ 6) = false := decide_eq_false (by omega)
          rw [e6]
          refine iteT ?_
          have e : nameK (.s z) = false := by
            show nameS z = false
            unfold nameS
            rw [decide_eq_false h6, Bool.and_false]
            rfl
          rw [e] at q
          exact q _ (Ex.refl _)
      · refine ⟨_, rfl, iteT ?_⟩
        have h1 : ¬ 1 ≤ z.length := fun h => h1 (decide_eq_true (by omega))
        have e : nameK (.s z) = false := by
          show nameS z = false
          unfold nameS
          rw [decide_eq_false h1]
          rfl
        rw [e] at q
        exact q _ (Ex.refl _)
    | i n => exact iteT (iteT (q _ (Ex.refl _)))
    | b c => exact iteT (iteT (q _ (Ex.refl _)))
    | o => exact iteT (iteT (q _ (Ex.refl _)))
end
end Eyes

set_option Elab.async false
set_option linter.all false
set_option maxRecDepth 100000
set_option maxHeartbeats 4000000
namespace Eyes
open PySem PySem.Spec PyProof.Rows L2 Evl TL
def spWords (n : Nat) : Sp := fun vs H Q _ => ∃ (v : V) (c : Ci), vs = [v] ∧ Rep H v c.data ∧ c.depth < n ∧ c.fine ∧ ∀ H', Ex H H' → Q (.str c.str) H'
def Ci.big (c : Ci) : Prop := c.ok ∧ c.size ≤ 9000
theorem Ci.fine.big {c : Ci} (h : c.fine) : c.big := ⟨h.1, Nat.le_trans h.2 (by decide)⟩
theorem parts_big {c d : Ci} (h : c.big) (hd : d ∈ c.parts) : d.big := by
  cases c with
  | eye n => exact absurd hd (by intro h; cases h)
  | node k ps =>
    have hd : d ∈ ps := hd
    have h2 : sizes ps ≤ 9000 := h.2
    exact ⟨oks_mem.mp h.1.2 d hd, Nat.le_trans (sizes_mem hd) h2⟩
def spNumC (g : Ci → Nat) (n : Nat) : Sp := fun vs H Q _ => ∃ (v : V) (c : Ci), vs = [v] ∧ Rep H v c.data ∧ c.depth < n ∧ c.big ∧ ∀ H', Ex H H' → Q (.int (g c)) H'
def spCirc (C : Addr) (n : Nat) : Sp := fun vs H Q _ => ∃ (v : V) (c : Ci), vs = [v] ∧ Rep H v c.data ∧ c.depth < n ∧ c.depth ≤ 20 ∧ c.size ≤ 60 ∧ c.norm ∧ ∀ v H', Ex H H' → CiAt C H' v c → Q v H'
section
variable {P : Program} {w : World} {K : PySem.W.Frag} {mg : Str → Option Value} {base : Heap} {AA : Adr}
theorem inner_sum {qs : List Ci} (hn : qs.length ≤ 900) (h : ∀ c ∈ qs, c.str.length ≤ 900) : ((qs.map inner).map (·.length)).sum + (qs.map inner).length * 3 ≤ 16777216 := by
  have h5 : ∀ qs : List Ci, (∀ c ∈ qs, c.str.length ≤ 900) → ((qs.map inner).map (·.length)).sum ≤ qs.length * 902 := by
    intro qs
    induction qs with
    | nil => intro _; simp
    | cons c r ih =>
      intro h
      have h6 := ih fun d hd => h d (List.mem_cons_of_mem _ hd)
      have h7 := h c List.mem_cons_self
      have h8 : (inner c).length ≤ c.str.length + 2 := by
        rw [len_tl, len_tl, tl_str]
        cases c with
        | eye n => exact Nat.le_add_right _ _
        | node k ps => show (40 :: (_ ++ [41])).length ≤ _; rw [List.length_cons, List.length_append]; exact Nat.le_refl _
      rw [List.map_cons, List.map_cons, List.sum_cons, List.length_cons, Nat.succ_mul]
      omega
  have h9 := h5 qs h
  rw [List.length_map]
  have : qs.length * 902 ≤ 900 * 902 := Nat.mul_le_mul_right _ hn
  omega
theorem cut_from (xs : List V) : cutV xs (some 1) none = xs.drop 1 := by
  show cutV xs (some ((1 : Nat) : Int)) none = _
  unfold cutV
  rw [HT.sIx_none, HT.sIx_nat]
  cases xs with
  | nil => rfl
  | cons x r =>
    rw [Nat.min_eq_left (by simp)]
    show (r.take _) = r
    rw [List.take_of_length_le (by simp)]
theorem nm_name {n : Str} (h : nm n) : nameS n = true := by
  unfold nameS
  rw [decide_eq_true h.1, decide_eq_true h.2.1]
  show (n.cps.toList.all fun c => decide (c ∈ letters.cps.toList)) = true
  rw [List.all_eq_true]
  intro c hc
  have h2 := h.2.2 c hc
  refine decide_eq_true ?_
  have h3 : letters.cps.toList = (List.range 26).map (· + 97) := by decide +kernel
  rw [h3, List.mem_map]
  exact ⟨c - 97, by rw [List.mem_range]; omega, by omega⟩
theorem nm_okS {n : Str} (h : nm n) : okS n := ⟨by have := h.2.1; omega, fun c hc => by have := h.2.2 c hc; omega⟩
def spEye (C : Addr) : Sp := fun vs H Q _ => ∃ (z : Str), vs = [.str z] ∧ nm z ∧ ∀ v H', Ex H H' → CiAt C H' v (.eye z) → Q v H'
theorem ok_eye (T : Txt K mg AA) : Pr P w K mg base "eye" s_eye p_eye 6 (spEye AA.Circle) := by
  refine pr_mk T.f_eye sc_eye (fun vs H Q E h => ?_) (fun f cdv A outer s H vs Q E hr h => ?_)
  · obtain ⟨z, rfl, _⟩ := h
    rfl
  · obtain ⟨z, rfl, hn, q⟩ := h
    refine ⟨_, (pss_cons (ps_if (pt_not (pt_val (pcall (ok_is_name T) hr (pa_cons (pv 0) pa_nil))))
      pss_never
      pss_nil)
      (pss_one (ps_ret (pmake T.m_Circle (ok_Circle___init T) hr (pa_cons pe_str (pa_cons (pv 0) (pa_cons (pe_lst pa_nil) pa_nil))))))), ?_⟩
    refine ⟨_, rfl, .str z, .s z, rfl, ⟨rfl, nm_okS hn⟩, fun H1 e1 => ⟨_, rfl, ?_⟩⟩
    show if (!nameS z) = true then _ else _
    rw [nm_name hn]
    refine iteF ?_
    -- Circle('eye', name, [])
    refine ⟨_, rfl, by show 0 ≤ sizeLine; decide, fun l hl x dx hx hdx hne => ?_⟩
    have eX : Ex (upd H1 l (.lst [])) (upd (upd (upd H1 l (.lst [])) dx (.own x)) x (.ins AA.Circle dx [])) := (Ex.new hdx).trans (Ex.new ((upd_ne (Ne.symm hne)).trans hx))
    refine ⟨x, dx, l, [], .eye z, upd H1 l (.lst []), rfl, hx, eX, upd_same, sq_of upd_same, .nil, by decide, (fun d hd => by cases hd), (fun j hj => by cases hj), fun H6 e6 hA => ⟨rfl, ?_⟩⟩
    exact q _ H6 ((e1.trans (Ex.new hl)).trans e6) hA
theorem ok_law_circle (T : Txt K mg AA) : ∀ n : Nat, Pr P w K mg base "_law_circle" s_law_circle p_law_circle (n + 8) (spCirc AA.Circle n)
  | 0 => by
    obtain ⟨f, fd, F, hb, hm⟩ := T.f_law_circle
    exact ⟨f, fd, hm, F, hb, fun vs H Q E h => by
      obtain ⟨x, d, _, _, h, _⟩ := h
      omega, fun A outer s H args us vs Q E _ _ _ _ h => by
      obtain ⟨x, d, _, _, h, _⟩ := h
      omega⟩
  | n + 1 => by
    have G := ok_law_circle T n
    refine pr_mk T.f_law_circle sc_law_circle (fun vs H Q E h => ?_) (fun f cdv A outer s H vs Q E hr h => ?_)
    · obtain ⟨v, c, rfl, _⟩ := h
      rfl
    · obtain ⟨v, c, rfl, hA, hd, hd20, hs60, hn, q⟩ := h
      refine ⟨_, (pss_cons (ps_if (pt_cmpR op_eq (pe_ix (ix_tupK (K := K) rfl) (pv 0) pe_int (fun _ _ => rfl)) pe_str (nomark _))
      (pss_one (ps_ret (pcall (ok_eye T) hr (pa_cons (pe_ix (ix_tupK (K := K) rfl) (pv 0) pe_int (fun _ _ => rfl)) pa_nil))))
      pss_nil)
      (pss_cons (ps_set (i := 1) sc_law_circle.nd rfl (.inl rfl) (pcall G hr (pa_cons (pe_ix (ix_tupK (K := K) rfl) (pe_ix (ix_tupK (K := K) rfl) (pv 0) pe_int (fun _ _ => rfl)) pe_int (fun _ _ => rfl)) pa_nil)))
      (pss_cons (ps_for PassesOwn.never rfl (pi_tup (pe_slice sl_tup (pe_ix (ix_tupK (K := K) rfl) (pv 0) pe_int (fun _ _ => rfl)) (po_some pe_int) po_none)) (pg_name (i := 2) sc_law_circle.nd rfl (.inl rfl))
      (pss_one (ps_if (pt_cmpR op_eq (pe_ix (ix_tupK (K := K) rfl) (pv 0) pe_int (fun _ _ => rfl)) pe_str (nomark _))
      (pss_one (ps_set (i := 1) sc_law_circle.nd rfl (.inl rfl) (pe_op (op_ownB T.s_Circle (ok_Circle___and T) hr) (pv 1) (pcall G hr (pa_cons (pv 2) pa_nil)))))
      (pss_one (ps_set (i := 1) sc_law_circle.nd rfl (.inl rfl) (pe_op (op_ownB T.s_Circle (ok_Circle___or T) hr) (pv 1) (pcall G hr (pa_cons (pv 2) pa_nil))))))))
      (pss_one (ps_ret (pv 1)))))), ?_⟩
      obtain ⟨a, x, rfl, ha, hx1, hx2⟩ := hA.node
      refine ⟨_, rfl, a, _, 0, _, rfl, rfl, st_of ha, rfl, rfl, _, rfl, ?_⟩
      cases c with
      | eye z =>
        refine iteT ?_
        rw [hx1 z rfl] at ha
        exact ⟨_, rfl, a, _, 1, _, rfl, rfl, st_of ha, rfl, z, rfl, hn, fun v H' e hv => q v H' e hv⟩
      | node k ps =>
        have e2 : (decide ((V.str (Ci.node k ps).kind) = V.str (Str.ofString "eye"))) = false := decide_eq_false fun h => kindS_eye k (V.str.inj h)
        rw [e2]
        refine iteF ?_
        obtain ⟨b, ws, rfl, hb, hr2⟩ := hx2 k ps rfl
        have hwl := hr2.lengthC
        have h2p : 2 ≤ ps.length := hn.1
        have hs : sizes ps ≤ 60 := hs60
        have hdp : 1 + depths ps ≤ 20 := hd20
        have hdn : 1 + depths ps < n + 1 := hd
        have hnm := norms_mem.mp hn.2.2.2
        have h0w : 0 < ws.length := by omega
        obtain ⟨c0, hc0, hA0⟩ := hr2.getC (List.getElem?_eq_getElem h0w)
        have hm0 := List.mem_of_getElem? hc0
        have hd0 := depths_le hm0
        refine ⟨_, rfl, a, _, 1, _, rfl, rfl, st_of ha, rfl, b, ws, 0, _, rfl, rfl, st_of hb, at_of (j := 0) rfl (List.getElem?_eq_getElem h0w), _, c0, rfl, hA0, by omega, by omega, Nat.le_trans (sizes_mem hm0) hs, hnm c0 hm0, fun v1 H1 e1 hv1 => ?_⟩
        refine ⟨_, rfl, a, _, 1, _, rfl, rfl, st_of (e1 _ _ ha), rfl, _, rfl, b, ws, rfl, st_of (e1 _ _ hb), ?_, fun sl hsl => ?_⟩
        · show ¬(HT.sIx ws.length 0 (some ((1 : Nat) : Int)) = 0 ∧ _)
          rw [HT.sIx_nat]
          rintro ⟨h, _⟩
          omega
        · rw [cut_from]
          have es := e1.trans (Ex.new (o := .tup (ws.drop 1)) hsl)
          have hdl : (ws.drop 1).length = ps.length - 1 := by rw [List.length_drop, hwl]
          refine ⟨sl, rfl, ⟨_, st_of upd_same⟩, for_tup (xs := ws.drop 1) (fun i σ H' => ∃ (v : V) (y : Option V), σ = [some (.ref a), some v, y] ∧ Ex H H' ∧ H' sl = some (.tup (ws.drop 1)) ∧ CiAt AA.Circle H' v (some_of k (ps.take (i + 1)))) ⟨v1, none, rfl, es, upd_same, ?_⟩ (fun i σ H' _ hp => ?_) (fun i x σ H' hx hp => ?_) (fun σ H' hp => ?_)⟩
          · have e : ps.take 1 = [c0] := by
              rw [List.take_add_one, hc0]
              rfl
            rw [e]
            exact hv1.mono (Ex.new hsl)
          · obtain ⟨v, y, rfl, e3, h3, h4⟩ := hp
            exact st_of h3
          · obtain ⟨v, y, rfl, e3, h3, h4⟩ := hp
            rw [List.getElem?_drop] at hx
            obtain ⟨c, hc, hAc⟩ := hr2.getC hx
            have hcm := List.mem_of_getElem? hc
            have hcd := depths_le hcm
            obtain ⟨hm, hgd⟩ := good_step (j := i + 1) hn hs hdp (by omega) (by rw [Nat.add_comm]; exact hc)
            refine ⟨_, rfl, a, _, 0, _, rfl, rfl, st_of (e3 _ _ ha), rfl, rfl, _, rfl, ?_⟩
            have hkk : decide (V.str (Ci.node k ps).kind = V.str (Str.ofString "pool")) = k := (show ∀ k : Bool, decide (V.str (kindS k) = V.str (Str.ofString "pool")) = k by decide +kernel) k
            rw [hkk]
            cases k with
            | true =>
              refine iteT ?_
              refine ⟨_, rfl, _, rfl, x, c, rfl, hAc.mono e3, by omega, by omega, Nat.le_trans (sizes_mem hcm) hs, hnm c hcm, fun v2 H4 e4 hv2 => ?_⟩
              have h5 := h4.mono e4
              obtain ⟨p1, dx1, l1, us1, rfl, hp1, _⟩ := h5.at_
              obtain ⟨p2, dx2, l2, us2, rfl, hp2, _⟩ := hv2.at_
              refine ⟨p1, p2, dx1, dx2, _, _, rfl, rfl, hp1, hp2, _, _, _, _, rfl, h5, hv2, hgd, fun v3 H5 e5 hv3 => ⟨v3, _, rfl, (e3.trans e4).trans e5, e5 _ _ (e4 _ _ h3), ?_⟩⟩
              rw [← hm]
              exact hv3
            | false =>
              refine iteF ?_
              refine ⟨_, rfl, _, rfl, x, c, rfl, hAc.mono e3, by omega, by omega, Nat.le_trans (sizes_mem hcm) hs, hnm c hcm, fun v2 H4 e4 hv2 => ?_⟩
              have h5 := h4.mono e4
              obtain ⟨p1, dx1, l1, us1, rfl, hp1, _⟩ := h5.at_
              obtain ⟨p2, dx2, l2, us2, rfl, hp2, _⟩ := hv2.at_
              refine ⟨p1, p2, dx1, dx2, _, _, rfl, rfl, hp1, hp2, _, _, _, _, rfl, h5, hv2, hgd, fun v3 H5 e5 hv3 => ⟨v3, _, rfl, (e3.trans e4).trans e5, e5 _ _ (e4 _ _ h3), ?_⟩⟩
              rw [← hm]
              exact hv3
          · obtain ⟨v, y, rfl, e3, h3, h4⟩ := hp
            rw [hdl, List.take_of_length_le (by omega), some_node h2p] at h4
            exact ⟨v, rfl, q v H' e3 h4⟩
end
end Eyes

set_option Elab.async false
set_option linter.all false
set_option maxRecDepth 100000
set_option maxHeartbeats 4000000
namespace Eyes
open PySem PySem.Spec PyProof.Rows L2 Evl TL
theorem joinL_nil : ∀ l : List (List Nat), joinL [] l = l.flatten
  | [] => rfl
  | [p] => by simp [joinL]
  | p :: q :: r => by
    show p ++ ([] ++ joinL [] (q :: r)) = _
    rw [joinL_nil (q :: r)]
    simp
theorem join_signs (cs : List Nat) : tl (Txt.join ("" : Str) (cs.map fun c => ⟨#[c]⟩)) = cs := by
  rw [join_eq, tl_join, show tl ("" : Str) = [] by decide +kernel, joinL_nil, List.map_map]
  induction cs with
  | nil => rfl
  | cons c cs ih =>
    rw [List.map_cons, List.flatten_cons, ih]
    rfl
theorem sum_signs {cs : List Nat} (h : cs.length ≤ 1000) : ((cs.map fun c => (⟨#[c]⟩ : Str)).map (·.length)).sum + (cs.map fun c => (⟨#[c]⟩ : Str)).length * Str.length ("" : Str) ≤ 16777216 := by
  have e : ((cs.map fun c => (⟨#[c]⟩ : Str)).map (·.length)).sum ≤ cs.length := by
    clear h
    induction cs with
    | nil => exact Nat.le_refl _
    | cons c cs ih =>
      rw [List.map_cons, List.map_cons, List.sum_cons, List.length_cons]
      have : (⟨#[c]⟩ : Str).length = 1 := rfl
      omega
  have e2 : ((cs.map fun c => (⟨#[c]⟩ : Str)).length * Str.length ("" : Str)) = 0 := by
    rw [show Str.length ("" : Str) = 0 by decide +kernel, Nat.mul_zero]
  omega
theorem flat_strs (ts : List Str) : (ts.map V.str).all flatV = true := by
  rw [List.all_map, List.all_eq_true]
  intro t _
  rfl
theorem low_of {z : Str} (h : (z.cps.toList.all fun c => decide (97 ≤ c) && decide (c ≤ 122)) = true) : ∀ c ∈ z.cps.toList, 97 ≤ c ∧ c ≤ 122 := fun c hc => by
  have := List.all_eq_true.mp h c hc
  rw [Bool.and_eq_true] at this
  exact ⟨of_decide_eq_true this.1, of_decide_eq_true this.2⟩
def nmB (z : Str) : Bool := decide (1 ≤ z.length) && decide (z.length ≤ 6) && z.cps.toList.all fun c => decide (97 ≤ c) && decide (c ≤ 122)
theorem nm_of {z : Str} (h : nmB z = true) : nm z := by
  unfold nmB at h
  rw [Bool.and_eq_true, Bool.and_eq_true] at h
  exact ⟨of_decide_eq_true h.1.1, of_decide_eq_true h.1.2, low_of h.2⟩
def nmV : V → Bool | .str z => nmB z | _ => false
theorem nms_of {l : List V} {v : V} (h : l.all nmV = true) (hv : v ∈ l) : ∃ y, v = .str y ∧ nm y := by
  have := List.all_eq_true.mp h v hv
  cases v with
  | str y => exact ⟨y, rfl, nm_of this⟩
  | _ => cases this
theorem free_sign {z : Str} {ts : List Str} (h1 : z.cps.toList.Nodup) (h2 : ts.length < z.length) : (z.cps.toList.filter fun c => !inV (.str ⟨#[c]⟩) (ts.map V.str)) ≠ [] := by
  intro h
  have h3 : ∀ c ∈ z.cps.toList, (⟨#[c]⟩ : Str) ∈ ts := fun c hc => by
    have h4 : ¬ (!inV (.str ⟨#[c]⟩) (ts.map V.str)) = true := fun g => by
      have : c ∈ z.cps.toList.filter fun c => !inV (.str ⟨#[c]⟩) (ts.map V.str) := List.mem_filter.mpr ⟨hc, g⟩
      rw [h] at this
      cases this
    have h5 : inV (.str ⟨#[c]⟩) (ts.map V.str) = true := by simpa using h4
    unfold inV at h5
    rw [List.any_map, List.any_eq_true] at h5
    obtain ⟨t, ht, e⟩ := h5
    have e : (t == (⟨#[c]⟩ : Str)) = true := e
    rw [← (by simpa using e : t = ⟨#[c]⟩)]
    exact ht
  have h6 : (z.cps.toList.map fun c => (⟨#[c]⟩ : Str)).Nodup := by
    refine List.pairwise_map.mpr (h1.imp fun {a b} hn hab => hn ?_)
    injection hab with hab
    simpa using hab
  have h7 := List.Nodup.length_le_of_subset (l₁ := z.cps.toList.map fun c => (⟨#[c]⟩ : Str)) (l₂ := ts) h6 fun x hx => by
    obtain ⟨c, hc, rfl⟩ := List.mem_map.mp hx
    exact h3 c hc
  rw [List.length_map, Array.length_toList] at h7
  have : z.cps.size = z.length := rfl
  omega
def spTtl : Sp := fun vs H Q _ => ∃ (b tk : Addr) (G : Hp) (ts : List Str), vs = [.ref b, .ref tk] ∧ At b G H ∧ G tk = some (.lst (ts.map V.str)) ∧ ts.length ≤ 20 ∧ ∀ z H', nm z → At b G H' → Q (.str z) H'
section
variable {P : Program} {w : World} {K : PySem.W.Frag} {mg : Str → Option Value} {base : Heap} {AA : Adr}
end
end Eyes

set_option Elab.async false
set_option linter.all false
set_option maxRecDepth 100000
set_option maxHeartbeats 4000000
namespace Eyes
open PySem PySem.Spec PyProof.Rows L2 Evl TL
def spTtls : Sp := fun vs H Q _ => ∃ (b : Addr) (z : Int) (G : Hp), vs = [.ref b, .int z] ∧ At b G H ∧ 0 ≤ z ∧ z ≤ 20 ∧ ∀ (l : Addr) (ts : List Str) (H' : Hp), G l = none → At b (upd G l (.lst (ts.map V.str))) H' → (ts.length : Int) = z → (∀ t ∈ ts, nm t) → Q (.ref l) H'
theorem cutS_to (x : Str) (k : Nat) : cutS x none (some (k : Int)) = ⟨((tl x).take k).toArray⟩ := by
  refine ext_tl ?_
  show (x.cps.toList.drop _).take _ = (tl x).take k
  rw [HT.sIx_none, HT.sIx_nat, List.drop_zero, Nat.sub_zero]
  have hl : x.cps.toList.length = x.length := Array.length_toList
  rcases Nat.le_total k x.length with h | h
  · rw [Nat.min_eq_left h]
  · rw [Nat.min_eq_right h, List.take_of_length_le (by omega)]
    show _ = x.cps.toList.take k
    rw [List.take_of_length_le (by omega)]
theorem cutS_from (x : Str) (k : Nat) : cutS x (some (k : Int)) none = ⟨((tl x).drop k).toArray⟩ := by
  refine ext_tl ?_
  show (x.cps.toList.drop _).take _ = (tl x).drop k
  rw [HT.sIx_none, HT.sIx_nat]
  have hl : x.cps.toList.length = x.length := Array.length_toList
  rw [List.take_of_length_le (by rw [List.length_drop]; omega)]
  rcases Nat.le_total k x.length with h | h
  · rw [Nat.min_eq_left h]
  · rw [Nat.min_eq_right h, List.drop_of_length_le (by omega)]
    show _ = x.cps.toList.drop k
    rw [List.drop_of_length_le (by omega)]
section
variable {P : Program} {w : World} {K : PySem.W.Frag} {mg : Str → Option Value} {base : Heap} {AA : Adr}
end
end Eyes

set_option Elab.async false
set_option linter.all false
set_option maxRecDepth 100000
set_option maxHeartbeats 4000000
namespace Eyes
open PySem PySem.Spec PyProof.Rows L2 Evl TL
theorem At.all {b : Addr} {G H0 H : Hp} (h : At b G H0) (e : Ex H0 H) : ∃ G', At b G' H ∧ Ex G G' ∧ ∀ a, (∀ xs, H0 a ≠ some (.lst xs)) → G' a = H a := by
  obtain ⟨c, ns, i, r, m, n, B⟩ := h
  refine ⟨fun a => if a = b ∨ a = c then none else H a, ⟨c, ns, i, r, m, n, if_pos (.inl rfl), if_pos (.inr rfl), fun a o ha => ?_, e _ _ B.at_, e _ _ B.cells, B.ne, B.i0, B.r0, B.m0, B.m1⟩, fun a o ha => ?_, fun a ha => ?_⟩
  · by_cases hab : a = b ∨ a = c
    · rw [show (if a = b ∨ a = c then none else H a) = none from if_pos hab] at ha
      cases ha
    · rw [show (if a = b ∨ a = c then none else H a) = H a from if_neg hab] at ha
      exact ha
  · have hab : ¬ (a = b ∨ a = c) := by
      rintro (rfl | rfl)
      · rw [B.nb] at ha
        cases ha
      · rw [B.nc] at ha
        cases ha
    exact (show (if a = b ∨ a = c then none else H a) = H a from if_neg hab).trans (e _ _ (B.ex _ _ ha))
  · refine if_neg ?_
    rintro (rfl | rfl)
    · exact ha _ B.at_
    · exact ha _ B.cells
mutual
theorem Rep.tups {H H' : Hp} (e : ∀ a xs, H a = some (.tup xs) → H' a = some (.tup xs)) : ∀ {c : Ci} {v : V}, Rep H v c.data → Rep H' v c.data
  | .eye n, v, h => by
    have h : Rep H v (.tuple [.str "eye", .str n]) := h
    cases h with
    | tup h r =>
      cases r with
      | cons h1 r =>
        cases r with
        | cons h2 r =>
          cases r
          cases h1
          cases h2
          exact .tup (e _ _ h) (.cons (.str _) (.cons (.str _) .nil))
  | .node k ps, v, h => by
    have h : Rep H v (.tuple [.str (kindS k), .tuple (datas ps)]) := h
    cases h with
    | tup h r =>
      cases r with
      | cons h1 r =>
        cases r with
        | cons h2 r =>
          cases r
          cases h1
          cases h2 with
          | tup h3 r3 => exact .tup (e _ _ h) (.cons (.str _) (.cons (.tup (e _ _ h3) (Reps.tups e r3)) .nil))
theorem Reps.tups {H H' : Hp} (e : ∀ a xs, H a = some (.tup xs) → H' a = some (.tup xs)) : ∀ {cs : List Ci} {vs : List V}, Reps H vs (datas cs) → Reps H' vs (datas cs)
  | [], vs, h => by
    have h : Reps H vs [] := h
    cases h
    exact .nil
  | c :: r, vs, h => by
    have h : Reps H vs (c.data :: datas r) := h
    cases h with
    | cons h1 h2 => exact .cons (Rep.tups e h1) (Reps.tups e h2)
end
theorem At.node {b : Addr} {G H0 H : Hp} {v : V} {c : Ci} (h : At b G H0) (e : Ex H0 H) (hv : Rep H v c.data) : ∃ G', At b G' H ∧ Ex G G' ∧ Rep G' v c.data := by
  obtain ⟨G', h1, h2, h3⟩ := h.all e
  refine ⟨G', h1, h2, hv.tups fun a xs ha => ?_⟩
  rw [h3 a fun ys hy => ?_]
  · exact ha
  · rw [e _ _ hy] at ha
    cases ha
theorem upd_self {G : Hp} {p : Addr} {o : HO} (h : G p = some o) : upd G p o = G := by
  funext a
  by_cases e : a = p
  · subst e
    rw [upd_same, h]
  · exact upd_ne e
theorem At.put' {b : Addr} {G H : Hp} {p : Addr} {o o' : HO} (h : At b G H) (hp : G p = some o) : At b (upd G p o') (upd H p o') := by
  have h2 : At b (upd G p o) H := by rw [upd_self hp]; exact h
  exact h2.put
def spNode (n : Nat) : Sp := fun vs H Q _ => ∃ (b tl : Addr) (d : Nat) (G : Hp) (ts : List Str), vs = [.ref b, .ref tl, .int d] ∧ At b G H ∧ G tl = some (.lst (ts.map V.str)) ∧ ts ≠ [] ∧ ts.length ≤ 1000 ∧ (∀ t ∈ ts, nm t) ∧ d < n ∧ d ≤ 8 ∧
  ∀ (v : V) (c : Ci) (G' H' : Hp), Ex G G' → At b G' H' → Rep G' v c.data → c.norm → c.depth ≤ d → c.size ≤ 3 ^ d → Q v H'
section
variable {P : Program} {w : World} {K : PySem.W.Frag} {mg : Str → Option Value} {base : Heap} {AA : Adr}
end
end Eyes

set_option Elab.async false
set_option linter.all false
set_option maxRecDepth 100000
set_option maxHeartbeats 4000000
namespace Eyes
open PySem PySem.Spec PyProof.Rows L2 Evl TL
def spLadder : Sp := fun vs H Q _ => ∃ (b tl : Addr) (d : Nat) (G : Hp) (ts : List Str), vs = [.ref b, .ref tl, .int d] ∧ At b G H ∧ G tl = some (.lst (ts.map V.str)) ∧ ts ≠ [] ∧ ts.length ≤ 1000 ∧ (∀ t ∈ ts, nm t) ∧ d ≤ 24 ∧
  ∀ (v : V) (c : Ci) (G' H' : Hp), Ex G G' → At b G' H' → Rep G' v c.data → c.norm → c.depth ≤ d → c.size ≤ d + 1 → Q v H'
section
variable {P : Program} {w : World} {K : PySem.W.Frag} {mg : Str → Option Value} {base : Heap} {AA : Adr}
end
end Eyes

set_option Elab.async false
set_option linter.all false
set_option maxRecDepth 100000
/-! Partings: rows of numbers, for each case the least case alike to it. -/
namespace Eyes
open PySem PySem.Spec PyProof.Rows L2
def alone (n : Nat) : List Nat := (List.range n).map (· + 1)
def itm (p : List Nat) (x : Nat) : Nat := p.getD (x - 1) 0
def mrg1 (p : List Nat) (x y : Nat) : List Nat := p.map fun z => if z = max (itm p x) (itm p y) then min (itm p x) (itm p y) else z
def mrgs (p : List Nat) (l : List (Nat × Nat)) : List Nat := l.foldl (fun p xy => mrg1 p xy.1 xy.2) p
structure IsP (n : Nat) (p : List Nat) : Prop where
  len : p.length = n
  lo : ∀ x, 1 ≤ x → x ≤ n → 1 ≤ itm p x ∧ itm p x ≤ x
  rt : ∀ x, 1 ≤ x → x ≤ n → itm p (itm p x) = itm p x
theorem itm_get {p : List Nat} {x : Nat} (h1 : 1 ≤ x) (h2 : x ≤ p.length) : p[x - 1]? = some (itm p x) := by
  unfold itm
  rw [List.getD_eq_getElem?_getD, List.getElem?_eq_getElem (by omega)]
  rfl
theorem itm_alone {n x : Nat} (h1 : 1 ≤ x) (h2 : x ≤ n) : itm (alone n) x = x := by
  unfold itm alone
  rw [List.getD_eq_getElem?_getD, List.getElem?_map, List.getElem?_range (by omega)]
  show x - 1 + 1 = x
  omega
theorem alone_len {n : Nat} : (alone n).length = n := by
  unfold alone
  rw [List.length_map, List.length_range]
theorem isP_alone (n : Nat) : IsP n (alone n) := by
  refine ⟨alone_len, fun x h1 h2 => ?_, fun x h1 h2 => ?_⟩
  · rw [itm_alone h1 h2]
    omega
  · rw [itm_alone h1 h2, itm_alone h1 h2]
theorem itm_map {p : List Nat} {f : Nat → Nat} {x : Nat} (h1 : 1 ≤ x) (h2 : x ≤ p.length) : itm (p.map f) x = f (itm p x) := by
  have h := itm_get h1 h2
  unfold itm at h ⊢
  rw [List.getD_eq_getElem?_getD, List.getElem?_map, h]
  rfl
theorem itm_mrg1 {n : Nat} {p : List Nat} (h : IsP n p) (x y : Nat) {z : Nat} (h1 : 1 ≤ z) (h2 : z ≤ n) : itm (mrg1 p x y) z = if itm p z = max (itm p x) (itm p y) then min (itm p x) (itm p y) else itm p z :=
  itm_map h1 (by rw [h.len]; exact h2)
theorem isP_mrg1 {n : Nat} {p : List Nat} (h : IsP n p) {x y : Nat} (hx : 1 ≤ x ∧ x ≤ n) (hy : 1 ≤ y ∧ y ≤ n) : IsP n (mrg1 p x y) := by
  have ax := h.lo x hx.1 hx.2
  have ay := h.lo y hy.1 hy.2
  have rx := h.rt x hx.1 hx.2
  have ry := h.rt y hy.1 hy.2
  have key : ∀ z, 1 ≤ z → z ≤ n → itm (mrg1 p x y) z = if itm p z = max (itm p x) (itm p y) then min (itm p x) (itm p y) else itm p z := fun z h1 h2 => itm_mrg1 h x y h1 h2
  refine ⟨by unfold mrg1; rw [List.length_map]; exact h.len, fun z h1 h2 => ?_, fun z h1 h2 => ?_⟩
  · have az := h.lo z h1 h2
    rw [key z h1 h2]
    split
    · omega
    · exact az
  · have az := h.lo z h1 h2
    have rz := h.rt z h1 h2
    rw [key z h1 h2]
    by_cases g : itm p z = max (itm p x) (itm p y)
    · rw [if_pos g]
      have hm : itm p (min (itm p x) (itm p y)) = min (itm p x) (itm p y) := by
        rcases Nat.le_total (itm p x) (itm p y) with q | q
        · rw [Nat.min_eq_left q]
          exact rx
        · rw [Nat.min_eq_right q]
          exact ry
      rw [key _ (by omega) (by omega), hm]
      split
      · rfl
      · rfl
    · rw [if_neg g, key _ az.1 (by omega), rz, if_neg g]
theorem isP_mrgs {n : Nat} : ∀ {l : List (Nat × Nat)} {p : List Nat}, IsP n p → (∀ xy ∈ l, (1 ≤ xy.1 ∧ xy.1 ≤ n) ∧ 1 ≤ xy.2 ∧ xy.2 ≤ n) → IsP n (mrgs p l)
  | [], p, h, _ => h
  | xy :: r, p, h, hl => isP_mrgs (l := r) (isP_mrg1 h (hl xy List.mem_cons_self).1 (hl xy List.mem_cons_self).2) fun z hz => hl z (List.mem_cons_of_mem _ hz)
theorem mrgs_snoc (p : List Nat) (l : List (Nat × Nat)) (xy : Nat × Nat) : mrgs p (l ++ [xy]) = mrg1 (mrgs p l) xy.1 xy.2 := by
  unfold mrgs
  rw [List.foldl_append]
  rfl
/-! ### what is alike -/
def ali (p : List Nat) (x y : Nat) : Prop := itm p x = itm p y
theorem isP_ext {n : Nat} {p q : List Nat} (hp : IsP n p) (hq : IsP n q) (h : ∀ x y, 1 ≤ x → x ≤ n → 1 ≤ y → y ≤ n → (ali p x y ↔ ali q x y)) : p = q := by
  have low : ∀ {p q : List Nat}, IsP n p → IsP n q → (∀ x y, 1 ≤ x → x ≤ n → 1 ≤ y → y ≤ n → ali p x y → ali q x y) → ∀ x, 1 ≤ x → x ≤ n → itm q x ≤ itm p x := fun {p q} hp hq h x h1 h2 => by
    have a := hp.lo x h1 h2
    have e := h (itm p x) x a.1 (by omega) h1 h2 (hp.rt x h1 h2)
    have b := hq.lo (itm p x) a.1 (by omega)
    have e : itm q (itm p x) = itm q x := e
    omega
  refine List.ext_getElem? fun i => ?_
  by_cases hi : i < n
  · have h1 := itm_get (p := p) (x := i + 1) (by omega) (by rw [hp.len]; omega)
    have h2 := itm_get (p := q) (x := i + 1) (by omega) (by rw [hq.len]; omega)
    rw [Nat.add_sub_cancel] at h1 h2
    rw [h1, h2]
    have a := low hp hq (fun x y a b c d => (h x y a b c d).1) (i + 1) (by omega) (by omega)
    have b := low hq hp (fun x y a b c d => (h x y a b c d).2) (i + 1) (by omega) (by omega)
    congr 1
    omega
  · rw [List.getElem?_eq_none (by rw [hp.len]; omega), List.getElem?_eq_none (by rw [hq.len]; omega)]
theorem mrg1_keeps {n : Nat} {p : List Nat} (h : IsP n p) {x y a b : Nat} (ha : 1 ≤ a ∧ a ≤ n) (hb : 1 ≤ b ∧ b ≤ n) (e : ali p a b) : ali (mrg1 p x y) a b := by
  unfold ali at e ⊢
  rw [itm_mrg1 h x y ha.1 ha.2, itm_mrg1 h x y hb.1 hb.2, e]
theorem mrg1_joins {n : Nat} {p : List Nat} (h : IsP n p) {x y : Nat} (hx : 1 ≤ x ∧ x ≤ n) (hy : 1 ≤ y ∧ y ≤ n) : ali (mrg1 p x y) x y := by
  unfold ali
  rw [itm_mrg1 h x y hx.1 hx.2, itm_mrg1 h x y hy.1 hy.2]
  split <;> split <;> omega
theorem mrg1_least {n : Nat} {p : List Nat} (h : IsP n p) {x y a b : Nat} (hx : 1 ≤ x ∧ x ≤ n) (hy : 1 ≤ y ∧ y ≤ n) (ha : 1 ≤ a ∧ a ≤ n) (hb : 1 ≤ b ∧ b ≤ n) {f : Nat → Nat} (hf : ∀ u v, 1 ≤ u → u ≤ n → 1 ≤ v → v ≤ n → ali p u v → f u = f v) (hxy : f x = f y) (e : ali (mrg1 p x y) a b) : f a = f b := by
  unfold ali at e
  have up : ∀ u, 1 ≤ u ∧ u ≤ n → f (itm p u) = f u := fun u hu => hf _ _ (h.lo u hu.1 hu.2).1 (by have := h.lo u hu.1 hu.2; omega) hu.1 hu.2 (h.rt u hu.1 hu.2)
  have fx := up x hx
  have fy := up y hy
  have fa := up a ha
  have fb := up b hb
  have two : f (max (itm p x) (itm p y)) = f (min (itm p x) (itm p y)) := by
    rcases Nat.le_total (itm p x) (itm p y) with q | q
    · rw [Nat.max_eq_right q, Nat.min_eq_left q, fx, fy, hxy]
    · rw [Nat.max_eq_left q, Nat.min_eq_right q, fx, fy, hxy]
  rw [itm_mrg1 h x y ha.1 ha.2, itm_mrg1 h x y hb.1 hb.2] at e
  rw [← fa, ← fb]
  split at e <;> split at e
  · rename_i g1 g2
    rw [g1, g2]
  · rename_i g1 g2
    rw [g1, two, e]
  · rename_i g1 g2
    rw [g2, two, ← e]
  · rw [e]
theorem mrgs_keeps {n : Nat} : ∀ {l : List (Nat × Nat)} {p : List Nat}, IsP n p → (∀ xy ∈ l, (1 ≤ xy.1 ∧ xy.1 ≤ n) ∧ 1 ≤ xy.2 ∧ xy.2 ≤ n) → ∀ {a b : Nat}, (1 ≤ a ∧ a ≤ n) → (1 ≤ b ∧ b ≤ n) → ali p a b → ali (mrgs p l) a b
  | [], p, h, _, a, b, _, _, e => e
  | xy :: r, p, h, hl, a, b, ha, hb, e => mrgs_keeps (l := r) (isP_mrg1 h (hl xy List.mem_cons_self).1 (hl xy List.mem_cons_self).2) (fun z hz => hl z (List.mem_cons_of_mem _ hz)) ha hb (mrg1_keeps h ha hb e)
theorem mrgs_joins {n : Nat} : ∀ {l : List (Nat × Nat)} {p : List Nat}, IsP n p → (∀ xy ∈ l, (1 ≤ xy.1 ∧ xy.1 ≤ n) ∧ 1 ≤ xy.2 ∧ xy.2 ≤ n) → ∀ {xy : Nat × Nat}, xy ∈ l → ali (mrgs p l) xy.1 xy.2
  | z :: r, p, h, hl, xy, hm => by
    have hz := hl z List.mem_cons_self
    have hr : ∀ w ∈ r, (1 ≤ w.1 ∧ w.1 ≤ n) ∧ 1 ≤ w.2 ∧ w.2 ≤ n := fun w hw => hl w (List.mem_cons_of_mem _ hw)
    rcases List.mem_cons.mp hm with rfl | hm
    · exact mrgs_keeps (l := r) (isP_mrg1 h hz.1 hz.2) hr hz.1 hz.2 (mrg1_joins h hz.1 hz.2)
    · exact mrgs_joins (l := r) (isP_mrg1 h hz.1 hz.2) hr hm
theorem mrgs_least {n : Nat} {f : Nat → Nat} : ∀ {l : List (Nat × Nat)} {p : List Nat}, IsP n p → (∀ xy ∈ l, (1 ≤ xy.1 ∧ xy.1 ≤ n) ∧ 1 ≤ xy.2 ∧ xy.2 ≤ n) → (∀ u v, 1 ≤ u → u ≤ n → 1 ≤ v → v ≤ n → ali p u v → f u = f v) → (∀ xy ∈ l, f xy.1 = f xy.2) → ∀ {a b : Nat}, (1 ≤ a ∧ a ≤ n) → (1 ≤ b ∧ b ≤ n) → ali (mrgs p l) a b → f a = f b
  | [], p, h, _, hf, _, a, b, ha, hb, e => hf a b ha.1 ha.2 hb.1 hb.2 e
  | z :: r, p, h, hl, hf, hg, a, b, ha, hb, e => by
    have hz := hl z List.mem_cons_self
    refine mrgs_least (l := r) (isP_mrg1 h hz.1 hz.2) (fun w hw => hl w (List.mem_cons_of_mem _ hw)) (fun u v h1 h2 h3 h4 e2 => ?_) (fun w hw => hg w (List.mem_cons_of_mem _ hw)) ha hb e
    exact mrg1_least h hz.1 hz.2 ⟨h1, h2⟩ ⟨h3, h4⟩ hf (hg z List.mem_cons_self) e2
theorem mrgs_same {n : Nat} {l k : List (Nat × Nat)} {p q : List Nat} (hp : IsP n p) (hq : IsP n q) (hl : ∀ xy ∈ l, (1 ≤ xy.1 ∧ xy.1 ≤ n) ∧ 1 ≤ xy.2 ∧ xy.2 ≤ n) (hk : ∀ xy ∈ k, (1 ≤ xy.1 ∧ xy.1 ≤ n) ∧ 1 ≤ xy.2 ∧ xy.2 ≤ n)
    (a1 : ∀ u v, 1 ≤ u → u ≤ n → 1 ≤ v → v ≤ n → ali p u v → ali (mrgs q k) u v) (a2 : ∀ xy ∈ l, ali (mrgs q k) xy.1 xy.2) (b1 : ∀ u v, 1 ≤ u → u ≤ n → 1 ≤ v → v ≤ n → ali q u v → ali (mrgs p l) u v) (b2 : ∀ xy ∈ k, ali (mrgs p l) xy.1 xy.2) : mrgs p l = mrgs q k :=
  isP_ext (isP_mrgs hp hl) (isP_mrgs hq hk) fun x y h1 h2 h3 h4 =>
    ⟨fun e => mrgs_least (f := itm (mrgs q k)) hp hl a1 a2 ⟨h1, h2⟩ ⟨h3, h4⟩ e, fun e => mrgs_least (f := itm (mrgs p l)) hq hk b1 b2 ⟨h1, h2⟩ ⟨h3, h4⟩ e⟩
/-! ### roads to the least cases -/
structure Lead (n : Nat) (p L : List Nat) : Prop where
  len : L.length = n + 1
  le : ∀ i, i ≤ n → L.getD i 0 ≤ i
  to : ∀ i, 1 ≤ i → i ≤ n → 1 ≤ L.getD i 0 ∧ itm p (L.getD i 0) = itm p i
  end_ : ∀ i, 1 ≤ i → i ≤ n → L.getD i 0 = i → itm p i = i
theorem getD_set {L : List Nat} {e v i : Nat} (h : e < L.length) : (L.set e v).getD i 0 = if i = e then v else L.getD i 0 := by
  rw [List.getD_eq_getElem?_getD, List.getElem?_set, List.getD_eq_getElem?_getD]
  by_cases g : i = e
  · subst g
    rw [if_pos rfl, if_pos rfl, if_pos h]
    rfl
  · rw [if_neg (fun z => g z.symm), if_neg g]
theorem lead_new (n : Nat) : Lead n (alone n) (List.range (n + 1)) := by
  have g : ∀ i, i ≤ n → (List.range (n + 1)).getD i 0 = i := fun i hi => by
    rw [List.getD_eq_getElem?_getD, List.getElem?_range (by omega)]
    rfl
  refine ⟨List.length_range, fun i hi => ?_, fun i h1 h2 => ?_, fun i h1 h2 _ => itm_alone h1 h2⟩
  · rw [g i hi]
    exact Nat.le_refl _
  · rw [g i h2]
    exact ⟨h1, rfl⟩
theorem Lead.half {n : Nat} {p L : List Nat} (h : Lead n p L) {e : Nat} (h1 : 1 ≤ e) (h2 : e ≤ n) : Lead n p (L.set e (L.getD (L.getD e 0) 0)) := by
  have a := h.to e h1 h2
  have b := h.le e h2
  have c := h.to (L.getD e 0) a.1 (by omega)
  have d := h.le (L.getD e 0) (by omega)
  have hl : e < L.length := by rw [h.len]; omega
  refine ⟨by rw [List.length_set]; exact h.len, fun i hi => ?_, fun i g1 g2 => ?_, fun i g1 g2 => ?_⟩
  · rw [getD_set hl]
    split
    · omega
    · exact h.le i hi
  · rw [getD_set hl]
    split
    · rename_i g
      subst g
      exact ⟨c.1, c.2.trans a.2⟩
    · exact h.to i g1 g2
  · rw [getD_set hl]
    split
    · rename_i g
      subst g
      intro z
      exact h.end_ i g1 g2 (by omega)
    · exact h.end_ i g1 g2
theorem Lead.join {n : Nat} {p L : List Nat} (h : Lead n p L) (hp : IsP n p) {x y r s : Nat} (hr : 1 ≤ r ∧ r ≤ n) (hs : 1 ≤ s ∧ s ≤ n) (er : itm p x = r) (es : itm p y = s) (rr : itm p r = r) (ss : itm p s = s) : Lead n (mrg1 p x y) (L.set (max r s) (min r s)) := by
  have hl : max r s < L.length := by rw [h.len]; omega
  have key : ∀ z, 1 ≤ z → z ≤ n → itm (mrg1 p x y) z = if itm p z = max r s then min r s else itm p z := fun z h1 h2 => by
    rw [itm_mrg1 hp x y h1 h2, er, es]
  have em : itm p (max r s) = max r s := by
    rcases Nat.le_total r s with q | q
    · rw [Nat.max_eq_right q]; exact ss
    · rw [Nat.max_eq_left q]; exact rr
  have en : itm p (min r s) = min r s := by
    rcases Nat.le_total r s with q | q
    · rw [Nat.min_eq_left q]; exact rr
    · rw [Nat.min_eq_right q]; exact ss
  refine ⟨by rw [List.length_set]; exact h.len, fun i hi => ?_, fun i g1 g2 => ?_, fun i g1 g2 => ?_⟩
  · rw [getD_set hl]
    split
    · omega
    · exact h.le i hi
  · rw [getD_set hl]
    split
    · rename_i g
      subst g
      refine ⟨by omega, ?_⟩
      rw [key _ (by omega) (by omega), key _ g1 g2, em, en, if_pos rfl]
      split <;> rfl
    · have a := h.to i g1 g2
      have b := h.le i g2
      refine ⟨a.1, ?_⟩
      rw [key _ a.1 (by omega), key _ g1 g2, a.2]
  · rw [getD_set hl]
    split
    · rename_i g
      subst g
      intro z
      rw [key _ g1 g2, em, if_pos rfl]
      exact z
    · intro z
      have e := h.end_ i g1 g2 z
      rename_i g
      rw [key _ g1 g2, e, if_neg g]
end Eyes

set_option Elab.async false
set_option linter.all false
set_option maxRecDepth 100000
set_option maxHeartbeats 4000000
namespace Eyes
open PySem PySem.Spec PyProof.Rows L2 Evl TL
/-! ### partings: rows of numbers -/
def nvs (p : List Nat) : List V := p.map fun x : Nat => V.int (x : Int)
theorem nvs_len {p : List Nat} : (nvs p).length = p.length := List.length_map ..
theorem nvs_get {p : List Nat} {i x : Nat} (h : p[i]? = some x) : (nvs p)[i]? = some (.int x) := by
  unfold nvs
  rw [List.getElem?_map, h]
  rfl
theorem nvs_set {p : List Nat} {i x : Nat} : (nvs p).set i (.int x) = nvs (p.set i x) := by
  unfold nvs
  rw [List.map_set]
theorem rgV_alone (n : Nat) : rgV 1 ((n : Int) + 1) = nvs (alone n) := by
  unfold rgV nvs alone
  rw [show ((n : Int) + 1 - 1).toNat = n by omega, List.map_map]
  refine List.map_congr_left fun i _ => ?_
  show V.int (1 + (i : Int)) = V.int ((i + 1 : Nat) : Int)
  rw [Int.natCast_add, Int.add_comm]
  rfl
theorem rgV_range (n : Nat) : rgV 0 ((n : Int) + 1) = nvs (List.range (n + 1)) := by
  unfold rgV nvs
  rw [show ((n : Int) + 1 - 0).toNat = n + 1 by omega]
  refine List.map_congr_left fun i _ => ?_
  rw [Int.zero_add]
theorem lead_get {n : Nat} {p L : List Nat} (h : Lead n p L) {e : Nat} (he : e ≤ n) : atI (nvs L) (e : Int) = some (.int (L.getD e 0 : Nat)) := by
  have hl : e < L.length := by rw [h.len]; omega
  refine atI_nat (nvs_get ?_)
  rw [List.getD_eq_getElem?_getD, List.getElem?_eq_getElem hl]
  rfl
def end5 : L2.St → Hp → Nat := fun σ _ => match σ with
  | [_, _, _, _, _, some (.int e), _] => e.toNat
  | _ => 0
theorem two_min {r s : Nat} {m : Int} (h1 : m ∈ [(r : Int), (s : Int)]) (h2 : ∀ y, y ∈ [(r : Int), (s : Int)] → m ≤ y) : m = ((min r s : Nat) : Int) := by
  have a := h2 r (by simp)
  have b := h2 s (by simp)
  rcases List.mem_cons.mp h1 with rfl | h1
  · omega
  · rcases List.mem_cons.mp h1 with rfl | h1
    · omega
    · cases h1
theorem two_max {r s : Nat} {m : Int} (h1 : m ∈ [(r : Int), (s : Int)]) (h2 : ∀ y, y ∈ [(r : Int), (s : Int)] → y ≤ m) : m = ((max r s : Nat) : Int) := by
  have a := h2 r (by simp)
  have b := h2 s (by simp)
  rcases List.mem_cons.mp h1 with rfl | h1
  · omega
  · rcases List.mem_cons.mp h1 with rfl | h1
    · omega
    · cases h1
def spApart : Sp := fun vs H Q _ => ∃ n : Nat, vs = [.int n] ∧ n ≤ 4096 ∧ ∀ p, H p = none → Q (.ref p) (upd H p (.tup (nvs (alone n))))
def inN (n : Nat) (l : List (Nat × Nat)) : Prop := ∀ xy ∈ l, (1 ≤ xy.1 ∧ xy.1 ≤ n) ∧ 1 ≤ xy.2 ∧ xy.2 ≤ n
def Prs (K : PySem.W.Frag) (H : Hp) (vs : List V) (l : List (Nat × Nat)) : Prop := vs.length = l.length ∧ ∀ (i : Nat) v, vs[i]? = some v → ∃ q xy, v = .ref q ∧ l[i]? = some xy ∧ SqT K H q [.int xy.1, .int xy.2]
theorem Prs.mono {K : PySem.W.Frag} {H H' : Hp} {vs : List V} {l : List (Nat × Nat)} (h : Prs K H vs l) (e : Ex H H') : Prs K H' vs l :=
  ⟨h.1, fun i v hv => by
    obtain ⟨q, xy, a, b, c⟩ := h.2 i v hv
    exact ⟨q, xy, a, b, ex_t e c⟩⟩
def spLinked (K : PySem.W.Frag) : Sp := fun vs H Q _ => ∃ (n : Nat) (a : Addr) (ws : List V) (l : List (Nat × Nat)), vs = [.int n, .ref a] ∧ n ≤ 4096 ∧ SqLT K H a ws ∧ Prs K H ws l ∧ inN n l ∧ ∀ p H', Ex H H' → H p = none → H' p = some (.tup (nvs (mrgs (alone n) l))) → Q (.ref p) H'
section
variable {P : Program} {w : World} {K : PySem.W.Frag} {mg : Str → Option Value} {base : Heap} {AA : Adr}
theorem ok_apart (T : Txt K mg AA) : Pr P w K mg base "apart" s_apart p_apart 1 spApart := by
  refine pr_mk T.f_apart sc_apart (fun vs H Q E h => ?_) (fun f cdv A outer s H vs Q E hr h => ?_)
  · obtain ⟨n, rfl, _⟩ := h
    rfl
  · obtain ⟨n, rfl, hn, q⟩ := h
    refine ⟨_, (pss_one (ps_ret (pe_tupRg rfl (by rfl) T.n_tuple (prg_2 (by rfl) T.n_range pe_int (pe_op op_add (pv 0) pe_int))))), ?_⟩
    have g := q
    simp only [← rgV_alone] at g
    exact ⟨_, rfl, n, 1, rfl, rfl, 1, _, rfl, rfl, RgOk.of_le (by omega) (by omega) (by omega) (by omega), g⟩
theorem ok_linked (T : Txt K mg AA) : Pr P w K mg base "linked" s_linked p_linked 1 (spLinked K) := by
  refine pr_mk T.f_linked sc_linked (fun vs H Q E h => ?_) (fun f cdv A outer s H vs Q E hr h => ?_)
  · obtain ⟨n, a, ws, l, rfl, _⟩ := h
    rfl
  · obtain ⟨n, a, ws, l, rfl, hn, ha, hps, hin, q⟩ := h
    refine ⟨_, (pss_cons (ps_set (i := 2) sc_linked.nd rfl (.inl rfl) (pe_listRg rfl (by rfl) T.n_list (prg_1 (by rfl) T.n_range (pe_op op_add (pv 0) pe_int))))
      (pss_cons (ps_for PassesOwn.never rfl (pi_or (pi_list (pv 1)) (pi_tup (pv 1))) (pg_name (i := 3) sc_linked.nd rfl (.inl rfl))
      (pss_cons (ps_set (i := 4) sc_linked.nd rfl (.inl rfl) (pe_lst pa_nil))
      (pss_cons (ps_for PassesOwn.never rfl (pi_tup (pv 3)) (pg_name (i := 5) sc_linked.nd rfl (.inl rfl))
      (pss_cons (ps_while PassesOwn.never (pt_cmpR op_ne (pe_ix (ix_listK (K := K) rfl) (pv 2) (pv 5) (fun _ _ => rfl)) (pv 5) (nomark _))
      (pss_cons (ps_asg (pe_ix (ix_listK (K := K) rfl) (pv 2) (pe_ix (ix_listK (K := K) rfl) (pv 2) (pv 5) (fun _ _ => rfl)) (fun _ _ => rfl)) (pg_sub (pv 2) (pv 5) set_list))
      (pss_one (ps_set (i := 5) sc_linked.nd rfl (.inl rfl) (pe_ix (ix_listK (K := K) rfl) (pv 2) (pv 5) (fun _ _ => rfl))))))
      (pss_one (ps_expr (pe_bm PySem.F.plainAttrs_list PySem.F.slot_list_append PySem.F.type_list_append mt_append (pv 4) (pa_cons (pv 5) pa_nil))))))
      (pss_one (ps_asg (pe_callB (cr_min rfl) (by rfl) T.n_min PyProof.Rows.boot_min (pa_cons (pv 4) pa_nil)) (pg_sub (pv 2) (pe_callB (cr_max rfl) (by rfl) T.n_max PyProof.Rows.boot_max (pa_cons (pv 4) pa_nil)) set_list))))))
      (pss_cons (ps_for PassesOwn.never rfl (pi_range2 (by rfl) T.n_range (pa_cons pe_int (pa_cons (pe_op op_add (pv 0) pe_int) pa_nil))) (pg_name (i := 6) sc_linked.nd rfl (.inl rfl))
      (pss_one (ps_asg (pe_ix (ix_listK (K := K) rfl) (pv 2) (pe_ix (ix_listK (K := K) rfl) (pv 2) (pv 6) (fun _ _ => rfl)) (fun _ _ => rfl)) (pg_sub (pv 2) (pv 6) set_list))))
      (pss_one (ps_ret (pe_callTy call_tuple_of (by rfl) T.n_tuple PyProof.Rows.boot_tuple (pa_cons (pe_slice sl_list (pv 2) (po_some pe_int) po_none) pa_nil))))))), ?_⟩
    -- lead = list(range(many + 1))
    refine ⟨_, rfl, n, 1, rfl, rfl, _, rfl, RgOk.of_le (by omega) (by omega) (by omega) (by omega), fun p np => ?_⟩
    rw [rgV_range]
    have e1 : Ex H (upd H p (.lst (nvs (List.range (n + 1))))) := Ex.new np
    generalize hH1 : upd H p _ = H1 at e1
    have hp1 : H1 p = some (.lst (nvs (List.range (n + 1)))) := by rw [← hH1]; exact upd_same
    -- for pair in pairs
    refine for_lt (j := 1) rfl ha e1 (fun i σ H' => ∃ (y3 y4 y5 y6 : Option V) (L : List Nat), σ = [some (.int n), some (.ref a), some (.ref p), y3, y4, y5, y6] ∧ Ex H H' ∧ H' p = some (.lst (nvs L)) ∧ Lead n (mrgs (alone n) (l.take i)) L) ⟨none, none, none, none, _, rfl, e1, hp1, lead_new n⟩ (fun i σ H' hp => ?_) (fun i x σ H' hx hp => ?_) (fun σ H' hp => ?_) (fun _ _ => rfl)
    · obtain ⟨_, _, _, _, _, rfl, e, _⟩ := hp
      exact e
    · obtain ⟨y3, y4, y5, y6, L, rfl, e2, hL, hld⟩ := hp
      obtain ⟨qa, ⟨x, y⟩, rfl, hxy, hq⟩ := hps.2 i x hx
      have hxyN := hin _ (List.mem_of_getElem? hxy)
      -- ends = []
      refine ⟨by show 0 ≤ sizeLine; decide, fun b nb => ?_⟩
      have hpb : p ≠ b := ne_of_none hL nb
      have nbH : H b = none := fresh_back e2 nb
      have hP : IsP n (mrgs (alone n) (l.take i)) := isP_mrgs (isP_alone n) fun z hz => hin z (List.mem_of_mem_take hz)
      rw [show l.take (i + 1) = l.take i ++ [(x, y)] by rw [List.take_add_one, hxy]; rfl]
      rw [mrgs_snoc]
      generalize hPP : mrgs (alone n) (l.take i) = P at hP hld
      -- for end in pair
      refine ⟨_, rfl, qa, rfl, ⟨_, ex_t (e2.trans (Ex.new nb)) hq⟩, ?_⟩
      refine for_tup (xs := [.int x, .int y]) (fun j σ H' => ∃ (y5 y6 : Option V) (L : List Nat), σ = [some (.int n), some (.ref a), some (.ref p), some (.ref qa), some (.ref b), y5, y6] ∧ Ex H H' ∧ H' p = some (.lst (nvs L)) ∧ H' b = some (.lst (nvs (([x, y].take j).map (itm P)))) ∧ Lead n P L) ⟨_, _, L, rfl, e2.trans (Ex.new nb), (upd_ne hpb).trans hL, upd_same, hld⟩ (fun j σ H' _ hp => ?_) (fun j v σ H' hv hp => ?_) (fun σ H' hp => ?_)
      · obtain ⟨_, _, _, rfl, e, _⟩ := hp
        exact ex_t e hq
      · obtain ⟨y5, y6, L, rfl, e3, hL, hb, hld⟩ := hp
        have hz : ∃ z : Nat, v = .int z ∧ [x, y][j]? = some z ∧ 1 ≤ z ∧ z ≤ n := by
          match j, hv with
          | 0, hv => exact ⟨x, (Option.some.inj hv).symm, rfl, hxyN.1⟩
          | 1, hv => exact ⟨y, (Option.some.inj hv).symm, rfl, hxyN.2⟩
        obtain ⟨z, rfl, hz, hz1, hz2⟩ := hz
        -- while lead[end] != end
        refine while_by (fun σ H' => ∃ (e : Nat) (L : List Nat), σ = [some (.int n), some (.ref a), some (.ref p), some (.ref qa), some (.ref b), some (.int e), y6] ∧ Ex H H' ∧ H' p = some (.lst (nvs L)) ∧ H' b = some (.lst (nvs (([x, y].take j).map (itm P)))) ∧ Lead n P L ∧ 1 ≤ e ∧ e ≤ n ∧ itm P e = itm P z) end5 ⟨z, L, rfl, e3, hL, hb, hld, hz1, hz2, rfl⟩ (fun σ H' hp => ?_) (fun σ H' Q Q' hQ h => ?_)
        · obtain ⟨e, L, rfl, e3, hL, hb, hld, he1, he2, hez⟩ := hp
          refine ⟨_, rfl, _, rfl, p, _, e, _, rfl, rfl, sq_of hL, lead_get hld he2, _, rfl, rfl, _, rfl, ite2 (fun hne => ?_) (fun hne => ?_)⟩
          · have hf := hld.to e he1 he2
            have hfe := hld.le e he2
            have hne : L.getD e 0 ≠ e := fun z => by
              rw [z] at hne
              simp at hne
            have hg := hld.to (L.getD e 0) hf.1 (by omega)
            have hgf := hld.le (L.getD e 0) (by omega)
            have hld2 := hld.half he1 he2
            have hel : e < L.length := by rw [hld.len]; omega
            have hge : (L.set e (L.getD (L.getD e 0) 0)).getD e 0 = L.getD (L.getD e 0) 0 := by rw [getD_set hel, if_pos rfl]
            refine ⟨_, rfl, _, rfl, _, rfl, p, _, e, _, rfl, rfl, sq_of hL, lead_get hld he2, p, _, _, _, rfl, rfl, sq_of hL, lead_get hld (by omega), _, rfl, _, rfl, p, _, _, e, rfl, rfl, hL, ixN_nat (by rw [nvs_len]; exact hel), ?_⟩
            rw [nvs_set]
            refine ⟨_, rfl, _, rfl, p, _, e, _, rfl, rfl, sq_of upd_same, lead_get hld2 he2, ?_⟩
            rw [hge]
            refine ⟨⟨L.getD (L.getD e 0) 0, _, rfl, e3.mut np, upd_same, (upd_ne hpb.symm).trans hb, hld2, hg.1, by omega, by rw [hg.2, hf.2, hez]⟩, ?_⟩
            show (((L.getD (L.getD e 0) 0 : Nat) : Int)).toNat < ((e : Nat) : Int).toNat
            omega
          · have he : L.getD e 0 = e := by
              have : decide (V.int ((L.getD e 0 : Nat) : Int) = V.int (e : Int)) = true := by
                cases h : decide (V.int ((L.getD e 0 : Nat) : Int) = V.int (e : Int)) with
                | true => rfl
                | false => exact absurd (by rw [h]; rfl) hne
              have := of_decide_eq_true this
              injection this with this
              omega
            have hz' : itm P z = e := by rw [← hez]; exact hld.end_ e he1 he2 he
            -- ends.append(end)
            refine ⟨_, rfl, .inl ⟨rfl, _, sq_of hb⟩, _, rfl, b, _, _, rfl, rfl, hb, ?_, _, _, L, rfl, e3.mut nbH, (upd_ne hpb).trans hL, ?_, hld⟩
            · rw [nvs_len, List.length_map, List.length_take]
              have : 2 < sizeLine := by decide
              have : [x, y].length = 2 := rfl
              omega
            · rw [List.take_add_one, hz, List.map_append, upd_same]
              show some (HO.lst _) = some (.lst (nvs (_ ++ [itm P z])))
              rw [hz']
              unfold nvs
              rw [List.map_append]
              rfl
        · obtain ⟨a1, a2, a3, a4, a5, a6, a7, a8, a9, a10, a11, a12, a13, a14, a15, a16, a17, a18⟩ := h
          exact ⟨a1, a2, a3, a4, a5, a6, a7, a8, a9, a10, a11, a12, a13, a14, a15, a16, a17, hQ _ _ a18⟩
      · -- lead[max(ends)] = min(ends)
        obtain ⟨y5, y6, L, rfl, e3, hL, hb, hld⟩ := hp
        have hb : H' b = some (.lst ([(itm P x : Int), (itm P y : Int)].map V.int)) := hb
        have ax := hP.lo x hxyN.1.1 hxyN.1.2
        have ay := hP.lo y hxyN.2.1 hxyN.2.2
        have hm : max (itm P x) (itm P y) < L.length := by rw [hld.len]; omega
        refine ⟨_, rfl, b, _, rfl, sq_of hb, Nat.zero_lt_succ _, fun m hm1 hm2 => ?_⟩
        rw [two_min hm1 hm2]
        refine ⟨_, rfl, _, rfl, b, _, rfl, sq_of hb, Nat.zero_lt_succ _, fun m2 hm3 hm4 => ?_⟩
        rw [two_max hm3 hm4]
        refine ⟨p, _, _, _, rfl, rfl, hL, ixN_nat (by rw [nvs_len]; exact hm), _, _, _, _, _, rfl, e3.mut np, ?_, hld.join hP ⟨ax.1, by omega⟩ ⟨ay.1, by omega⟩ rfl rfl (hP.rt x hxyN.1.1 hxyN.1.2) (hP.rt y hxyN.2.1 hxyN.2.2)⟩
        rw [nvs_set]
        exact upd_same
    · obtain ⟨y3, y4, y5, y6, L, rfl, e2, hL, hld⟩ := hp
      have hP : IsP n (mrgs (alone n) l) := isP_mrgs (isP_alone n) hin
      rw [List.take_of_length_le (by rw [hps.1]; exact Nat.le_refl _)] at hld
      generalize hPP : mrgs (alone n) l = P at hP hld q
      -- for case in range(1, many + 1)
      refine ⟨_, rfl, n, 1, rfl, rfl, 1, _, rfl, ⟨by omega, by omega, by omega, by omega⟩, ?_⟩
      rw [show ((n : Int) + 1 - 1).toNat = n by omega]
      refine for_it walk_range (fun j σ H' => ∃ (y6 : Option V) (L : List Nat), σ = [some (.int n), some (.ref a), some (.ref p), y3, y4, y5, y6] ∧ Ex H H' ∧ H' p = some (.lst (nvs L)) ∧ Lead n P L ∧ ∀ c, 1 ≤ c → c ≤ j → L.getD c 0 = itm P c) ⟨y6, L, rfl, e2, hL, hld, fun c h1 h2 => absurd h2 (by omega)⟩ (fun _ _ _ _ _ => trivial) (fun j x σ H' H2 hj hp hx => ?_) (fun σ H' hp => ?_)
      · obtain ⟨rfl, rfl⟩ := hx
        obtain ⟨y6, L, rfl, e3, hL, hld, hd⟩ := hp
        have hc : (1 : Int) + (j : Nat) = ((j + 1 : Nat) : Int) := by omega
        rw [show (fun i : Nat => V.int (1 + (i : Int))) j = V.int ((j + 1 : Nat) : Int) from congrArg V.int hc]
        have h1 : 1 ≤ j + 1 := by omega
        have h2 : j + 1 ≤ n := by omega
        have hf := hld.to _ h1 h2
        have hfe := hld.le _ h2
        have hel : j + 1 < L.length := by rw [hld.len]; omega
        have hv : L.getD (L.getD (j + 1) 0) 0 = itm P (j + 1) := by
          by_cases g : L.getD (j + 1) 0 = j + 1
          · rw [g, g]
            exact (hld.end_ _ h1 h2 g).symm
          · rw [hd _ hf.1 (by omega), hf.2]
        refine ⟨_, rfl, _, rfl, _, rfl, p, _, _, _, rfl, rfl, sq_of hL, lead_get hld h2, p, _, _, _, rfl, rfl, sq_of hL, lead_get hld (by omega), _, rfl, _, rfl, p, _, _, (j + 1), rfl, rfl, hL, ixN_nat (by rw [nvs_len]; exact hel), _, _, rfl, e3.mut np, ?_, hld.half h1 h2, fun c g1 g2 => ?_⟩
        · rw [nvs_set]
          exact upd_same
        · rw [getD_set hel]
          split
          · rename_i g
            rw [g]
            exact hv
          · exact hd c g1 (by omega)
      · obtain ⟨y6, L, rfl, e3, hL, hld, hd⟩ := hp
        have hLP : L.drop 1 = P := by
          refine List.ext_getElem? fun k => ?_
          rw [List.getElem?_drop]
          by_cases hk : k < n
          · have := hd (k + 1) (by omega) (by omega)
            have h := itm_get (p := P) (x := k + 1) (by omega) (by rw [hP.len]; omega)
            rw [Nat.add_sub_cancel] at h
            rw [h, ← this, List.getD_eq_getElem?_getD, Nat.add_comm 1 k, List.getElem?_eq_getElem (by rw [hld.len]; omega)]
            rfl
          · rw [List.getElem?_eq_none (by rw [hld.len]; omega), List.getElem?_eq_none (by rw [hP.len]; omega)]
        have hcut : cutV (nvs L) (some 1) none = nvs P := by
          rw [cut_from]
          unfold nvs
          rw [← List.map_drop, hLP]
        refine ⟨_, rfl, 1, rfl, p, _, rfl, sq_of hL, fun p2 np2 => ?_⟩
        rw [hcut]
        refine ⟨p2, _, rfl, .inl ⟨sq_of upd_same, fun p3 np3 => ?_⟩⟩
        exact q p3 _ ((e3.trans (Ex.new np2)).trans (Ex.new np3)) (fresh_back (e3.trans (Ex.new np2)) np3) upd_same
end
end Eyes

set_option Elab.async false
set_option linter.all false
set_option maxRecDepth 100000
set_option maxHeartbeats 4000000
namespace Eyes
open PySem PySem.Spec PyProof.Rows L2 Evl TL
/-! ### the law's own partings -/
theorem itm_at {p : List Nat} {x : Nat} (h1 : 1 ≤ x) (h2 : x ≤ p.length) : atI (nvs p) ((x : Int) - 1) = some (.int (itm p x : Nat)) := by
  rw [show (x : Int) - 1 = ((x - 1 : Nat) : Int) by omega]
  exact atI_nat (nvs_get (itm_get h1 h2))
def spMerged (K : PySem.W.Frag) : Sp := fun vs H Q _ => ∃ (n : Nat) (a b : Addr) (p : List Nat) (ws : List V) (l : List (Nat × Nat)), vs = [.ref a, .ref b] ∧ n ≤ 4096 ∧ SqT K H a (nvs p) ∧ IsP n p ∧ SqL K H b ws ∧ Prs K H ws l ∧ inN n l ∧ ∀ q H', Ex H H' → H q = none → H' q = some (.tup (nvs (mrgs p l))) → Q (.ref q) H'
theorem int_min {a b : Nat} : (if (b : Int) < a then (b : Int) else a) = ((min a b : Nat) : Int) := by
  split <;> omega
theorem int_max {a b : Nat} : (if (b : Int) > a then (b : Int) else a) = ((max a b : Nat) : Int) := by
  split <;> omega
section
variable {P : Program} {w : World} {K : PySem.W.Frag} {mg : Str → Option Value} {base : Heap} {AA : Adr}
theorem ok_law_alone (T : Txt K mg AA) : Pr P w K mg base "_law_alone" s_law_alone p_law_alone 1 spApart := by
  refine pr_mk T.f_law_alone sc_law_alone (fun vs H Q E h => ?_) (fun f cdv A outer s H vs Q E hr h => ?_)
  · obtain ⟨n, rfl, _⟩ := h
    rfl
  · obtain ⟨n, rfl, hn, q⟩ := h
    refine ⟨_, (pss_one (ps_ret (pe_tupRg rfl (by rfl) T.n_tuple (prg_2 (by rfl) T.n_range pe_int (pe_op op_add (pv 0) pe_int))))), ?_⟩
    have g := q
    simp only [← rgV_alone] at g
    exact ⟨_, rfl, n, 1, rfl, rfl, 1, _, rfl, rfl, RgOk.of_le (by omega) (by omega) (by omega) (by omega), g⟩
theorem ok_law_merged (T : Txt K mg AA) : Pr P w K mg base "_law_merged" s_law_merged p_law_merged 1 (spMerged K) := by
  refine pr_mk T.f_law_merged sc_law_merged (fun vs H Q E h => ?_) (fun f cdv A outer s H vs Q E hr h => ?_)
  · obtain ⟨n, a, b, p, ws, l, rfl, _⟩ := h
    rfl
  · obtain ⟨n, a, b, p, ws, l, rfl, hn, ha, hP, hb, hps, hin, q⟩ := h
    refine ⟨_, (pss_cons (ps_set (i := 2) sc_law_merged.nd rfl (.inl rfl) (pe_callTy call_list_of (by rfl) T.n_list PyProof.Rows.boot_list (pa_cons (pv 0) pa_nil)))
      (pss_cons (ps_for PassesOwn.never rfl (pi_list (pv 1)) (pg_tup (by rfl) (pgs_cons (pg_name (i := 3) sc_law_merged.nd rfl (.inl rfl)) (pgs_cons (pg_name (i := 4) sc_law_merged.nd rfl (.inl rfl)) pgs_nil)))
      (pss_cons (ps_asg (pe_tup (pa_cons (pe_callB (call_min2 rfl) (by rfl) T.n_min PyProof.Rows.boot_min (pa_cons (pe_ix (ix_listK (K := K) rfl) (pv 2) (pe_op op_sub (pv 3) pe_int) (fun _ _ => rfl)) (pa_cons (pe_ix (ix_listK (K := K) rfl) (pv 2) (pe_op op_sub (pv 4) pe_int) (fun _ _ => rfl)) pa_nil))) (pa_cons (pe_callB (call_max2 rfl) (by rfl) T.n_max PyProof.Rows.boot_max (pa_cons (pe_ix (ix_listK (K := K) rfl) (pv 2) (pe_op op_sub (pv 3) pe_int) (fun _ _ => rfl)) (pa_cons (pe_ix (ix_listK (K := K) rfl) (pv 2) (pe_op op_sub (pv 4) pe_int) (fun _ _ => rfl)) pa_nil))) pa_nil))) (pg_tup (by rfl) (pgs_cons (pg_name (i := 5) sc_law_merged.nd rfl (.inr rfl)) (pgs_cons (pg_name (i := 6) sc_law_merged.nd rfl (.inr rfl)) pgs_nil))))
      (pss_one (ps_if (pt_cmpR op_lt (pv 5) (pv 6) (nomark _))
      (pss_one (ps_setLc (i := 2) (own := [("_law_z", 7)]) (g := gName 7) (tt := tYes) rfl sc_law_merged.nd rfl rfl (sw_true rfl rfl rfl (by decide +kernel)) (pi_list (pv 2)) (blkOk_by (own := [("_law_z", 7)]) (N := n_law_merged) (sc := defScope s_law_merged) (by decide +kernel)) (fun _ _ _ _ _ => (pg_name (i := 7) sc_law_merged.nd rfl (.inl rfl))) (fun _ _ _ _ _ => pts_nil) (fun _ _ _ _ _ => (pe_ifExp (pt_cmpR op_eq (pv 7) (pv 6) (nomark _)) (pv 5) (pv 7)))))
      pss_nil))))
      (pss_one (ps_ret (pe_callTy call_tuple_of (by rfl) T.n_tuple PyProof.Rows.boot_tuple (pa_cons (pv 2) pa_nil)))))), ?_⟩
    -- found = list(rows)
    refine ⟨_, rfl, a, _, rfl, .inr ha, fun r nr => ?_⟩
    -- for x, y in couples
    refine ⟨_, rfl, b, rfl, ⟨ws, ex_l (Ex.new nr) hb⟩, ?_⟩
    refine for_list (xs := ws) (fun i σ H' => ∃ (r : Addr) (y3 y4 y5 y6 y7 : Option V), σ = [some (.ref a), some (.ref b), some (.ref r), y3, y4, y5, y6, y7] ∧ Ex H H' ∧ H' r = some (.lst (nvs (mrgs p (l.take i))))) ⟨r, none, none, none, none, none, rfl, Ex.new nr, upd_same⟩ (fun i σ H' _ hp => ?_) (fun i x σ H' hx hp => ?_) (fun σ H' hp => ?_)
    · obtain ⟨_, _, _, _, _, _, rfl, e, _⟩ := hp
      exact ex_l e hb
    · obtain ⟨r, y3, y4, y5, y6, y7, rfl, e, hr1⟩ := hp
      obtain ⟨qa, ⟨x, y⟩, rfl, hxy, hq⟩ := hps.2 i x hx
      have hxyN := hin _ (List.mem_of_getElem? hxy)
      have hPi : IsP n (mrgs p (l.take i)) := isP_mrgs hP fun z hz => hin z (List.mem_of_mem_take hz)
      rw [show l.take (i + 1) = l.take i ++ [(x, y)] by rw [List.take_add_one, hxy]; rfl]
      rw [mrgs_snoc]
      generalize hPP : mrgs p (l.take i) = P at hPi hr1
      have ax := hPi.lo x hxyN.1.1 hxyN.1.2
      have ay := hPi.lo y hxyN.2.1 hxyN.2.2
      have gx : atI (nvs P) ((x : Int) - 1) = some (.int (itm P x : Nat)) := itm_at hxyN.1.1 (by rw [hPi.len]; exact hxyN.1.2)
      have gy : atI (nvs P) ((y : Int) - 1) = some (.int (itm P y : Nat)) := itm_at hxyN.2.1 (by rw [hPi.len]; exact hxyN.2.2)
      refine ⟨qa, _, rfl, ex_t e hq, rfl, _, _, rfl, _, _, rfl, rfl, ?_⟩
      -- low, high = (min, max)
      refine ⟨_, rfl, _, rfl, x, 1, rfl, rfl, r, _, _, _, rfl, rfl, sq_of hr1, gx, _, rfl, _, rfl, y, 1, rfl, rfl, r, _, _, _, rfl, rfl, sq_of hr1, gy, _, _, rfl, ?_⟩
      rw [int_min]
      refine ⟨_, rfl, _, rfl, x, 1, rfl, rfl, r, _, _, _, rfl, rfl, sq_of hr1, gx, _, rfl, _, rfl, y, 1, rfl, rfl, r, _, _, _, rfl, rfl, sq_of hr1, gy, _, _, rfl, ?_⟩
      rw [int_max]
      refine ⟨by show 2 ≤ sizeLine; decide, fun t nt => ⟨t, _, rfl, st_of upd_same, rfl, _, _, rfl, _, _, rfl, rfl, ?_⟩⟩
      have e2 : Ex H (upd H' t (.tup [V.int ((min (itm P x) (itm P y) : Nat) : Int), V.int ((max (itm P x) (itm P y) : Nat) : Int)])) := e.trans (Ex.new nt)
      have hr2 : (upd H' t (.tup [V.int ((min (itm P x) (itm P y) : Nat) : Int), V.int ((max (itm P x) (itm P y) : Nat) : Int)])) r = some (.lst (nvs P)) := (Ex.new nt) _ _ hr1
      generalize upd H' t _ = Hc at e2 hr2
      -- if low < high
      refine ⟨_, rfl, _, rfl, _, _, rfl, rfl, _, rfl, ite2 (fun hlt => ?_) (fun hlt => ?_)⟩
      · refine ⟨_, rfl, r, rfl, ⟨_, sq_of hr2⟩, fun D hD => lc_it (walk_list (xs := nvs P)) (fun j H' => Hc D = none ∧ Ex Hc H' ∧ H' D = some (.lst (nvs ((P.take j).map fun z => if z = max (itm P x) (itm P y) then min (itm P x) (itm P y) else z)))) ⟨hD, Ex.new hD, upd_same⟩ (fun _ _ _ hp => ex_l hp.2.1 (sq_of hr2)) (fun j v H3 H4 hj hp hy => ?_) (fun H' hp => ?_)⟩
        · obtain ⟨rfl, hv⟩ := hy
          obtain ⟨h1, h2, h3⟩ := hp
          unfold nvs at hv
          rw [List.getElem?_map] at hv
          obtain ⟨z, hz, rfl⟩ := Option.map_eq_some_iff.mp hv
          have fin : ∀ u : Nat, u = (if z = max (itm P x) (itm P y) then min (itm P x) (itm P y) else z) → ∃ acc, H4 D = some (HO.lst acc) ∧ acc.length < sizeLine ∧ Hc D = none ∧ Ex Hc (upd H4 D (.lst (acc ++ [V.int (u : Int)]))) ∧ (upd H4 D (.lst (acc ++ [V.int (u : Int)]))) D = some (.lst (nvs ((P.take (j + 1)).map fun z => if z = max (itm P x) (itm P y) then min (itm P x) (itm P y) else z))) := fun u hu => by
            refine ⟨_, h3, ?_, h1, h2.mut h1, ?_⟩
            · rw [nvs_len, List.length_map, List.length_take, hPi.len]
              have : 4097 < sizeLine := by decide
              omega
            · rw [upd_same, List.take_add_one, hz, List.map_append, hu]
              unfold nvs
              rw [List.map_append]
              rfl
          refine ⟨rfl, _, rfl, _, rfl, rfl, _, rfl, ite2 (fun he => ?_) (fun he => ?_)⟩
          · refine ⟨_, rfl, fin _ ?_⟩
            have h5 : V.int (z : Int) = V.int ((max (itm P x) (itm P y) : Nat) : Int) := of_decide_eq_true he
            injection h5 with h5
            rw [if_pos (Int.ofNat.inj h5)]
          · refine ⟨_, rfl, fin _ ?_⟩
            rw [if_neg fun g => he (by rw [g]; exact decide_eq_true rfl)]
        · obtain ⟨h1, h2, h3⟩ := hp
          rw [List.take_of_length_le (by rw [nvs_len]; exact Nat.le_refl _)] at h3
          exact ⟨D, _, _, _, _, _, rfl, e2.trans h2, h3⟩
      · refine ⟨r, _, _, _, _, _, rfl, e2, ?_⟩
        rw [hr2]
        have hle : ¬ (min (itm P x) (itm P y) < max (itm P x) (itm P y)) := fun g => hlt (decide_eq_true (by omega))
        have hid : mrg1 P x y = P := by
          unfold mrg1
          refine (List.map_congr_left fun z _ => ?_).trans (List.map_id P)
          by_cases g : z = max (itm P x) (itm P y)
          · rw [if_pos g]
            show min (itm P x) (itm P y) = z
            omega
          · rw [if_neg g]
            rfl
        show _ = some (HO.lst (nvs (mrg1 P x y)))
        rw [hid]
    · obtain ⟨r, y3, y4, y5, y6, y7, rfl, e, hr1⟩ := hp
      rw [List.take_of_length_le (by rw [hps.1]; exact Nat.le_refl _)] at hr1
      refine ⟨_, rfl, r, _, rfl, .inl ⟨sq_of hr1, fun t nt => ?_⟩⟩
      exact q t _ (e.trans (Ex.new nt)) (fresh_back e nt) upd_same
end
end Eyes

set_option Elab.async false
set_option linter.all false
set_option maxRecDepth 100000
set_option maxHeartbeats 4000000
namespace Eyes
open PySem PySem.Spec PyProof.Rows L2 Evl TL
theorem dp_nats {K : PySem.W.Frag} {H : Hp} : ∀ l : List Nat, DpAll K H (l.map fun c => V.int ((c : Nat) : Int)) (l.map fun c => PyData.int ((c : Nat) : Int))
  | [] => .nil
  | _ :: l => .cons (.int _) (dp_nats l)
theorem shaped_nats (l : List Nat) : SeqAt.shaped (.list (l.map fun c => PyData.int ((c : Nat) : Int))) = true := by
  have h1 : PyData.canLay0 (.list (l.map fun c => PyData.int ((c : Nat) : Int))) = true := by
    show PyData.canLayAll0 _ = true
    induction l with
    | nil => rfl
    | cons c l ih =>
      show (PyData.canLay0 (.int _) && PyData.canLayAll0 (l.map fun c => PyData.int ((c : Nat) : Int))) = true
      rw [ih, Bool.and_true]
      rfl
  have h2 : PyData.depth (.list (l.map fun c => PyData.int ((c : Nat) : Int))) ≤ 64 := by
    have : PyData.depthAll (l.map fun c => PyData.int ((c : Nat) : Int)) = 0 := by
      clear h1
      induction l with
      | nil => rfl
      | cons c l ih =>
        show max (PyData.depth (.int _)) _ = 0
        rw [ih]
        rfl
    show PyData.depthAll _ + 1 ≤ 64
    rw [this]
    decide
  unfold SeqAt.shaped
  rw [h1, decide_eq_true h2]
  rfl
theorem eqv_nats (l : List Nat) : PyData.eqv (.list (l.map fun c => PyData.int ((c : Nat) : Int))) (.list []) = decide (l = []) := by
  cases l with
  | nil => rfl
  | cons c r =>
    rw [decide_eq_false (by simp)]
    rfl
def Prh (H : Hp) (vs : List V) (l : List (Nat × Nat)) : Prop := vs.length = l.length ∧ ∀ (i : Nat) v, vs[i]? = some v → ∃ t xy, v = .ref t ∧ l[i]? = some xy ∧ H t = some (.tup [.int xy.1, .int xy.2])
theorem Prh.to {K : PySem.W.Frag} {H : Hp} {vs : List V} {l : List (Nat × Nat)} (h : Prh H vs l) : Prs K H vs l :=
  ⟨h.1, fun i v hv => by
    obtain ⟨t, xy, a, b, c⟩ := h.2 i v hv
    exact ⟨t, xy, a, b, st_of c⟩⟩
theorem Prh.ex {H H' : Hp} {vs : List V} {l : List (Nat × Nat)} (h : Prh H vs l) (e : Ex H H') : Prh H' vs l :=
  ⟨h.1, fun i v hv => by
    obtain ⟨t, xy, a, b, c⟩ := h.2 i v hv
    exact ⟨t, xy, a, b, e _ _ c⟩⟩
theorem Prh.put {H : Hp} {D : Addr} {xs : List V} {o : HO} {vs : List V} {l : List (Nat × Nat)} (h : Prh H vs l) (hD : H D = some (.lst xs)) : Prh (upd H D o) vs l :=
  ⟨h.1, fun i v hv => by
    obtain ⟨t, xy, a, b, c⟩ := h.2 i v hv
    refine ⟨t, xy, a, b, ?_⟩
    rw [upd_ne fun e => by rw [e, hD] at c; cases c]
    exact c⟩
theorem Prh.snoc {H : Hp} {vs : List V} {l : List (Nat × Nat)} (h : Prh H vs l) {t : Addr} {xy : Nat × Nat} (ht : H t = some (.tup [.int xy.1, .int xy.2])) : Prh H (vs ++ [.ref t]) (l ++ [xy]) :=
  ⟨by rw [List.length_append, List.length_append, h.1]; rfl, fun i v hv => by
    by_cases g : i < vs.length
    · rw [List.getElem?_append_left g] at hv
      obtain ⟨t, xy, a, b, c⟩ := h.2 i v hv
      refine ⟨t, xy, a, ?_, c⟩
      rw [List.getElem?_append_left (by rw [← h.1]; exact g)]
      exact b
    · rw [List.getElem?_append_right (by omega)] at hv
      have hi : i - vs.length = 0 := by
        cases hj : i - vs.length with
        | zero => rfl
        | succ j =>
          rw [hj] at hv
          cases hv
      rw [hi] at hv
      refine ⟨t, xy, (Option.some.inj hv).symm, ?_, ht⟩
      rw [List.getElem?_append_right (by rw [← h.1]; omega), ← h.1, hi]
      rfl⟩
def inn (p q : List Nat) : Bool := (List.range p.length).all fun k => decide (itm q (k + 1) = itm q (itm p (k + 1)))
def numd (n : Nat) (q : List Nat) : List (Nat × Nat) := (List.range n).map fun k => (k + 1, itm q (k + 1))
def spWithin (K : PySem.W.Frag) : Sp := fun vs H Q _ => ∃ (n : Nat) (a b : Addr) (p q : List Nat), vs = [.ref a, .ref b] ∧ n ≤ 4096 ∧ SqT K H a (nvs p) ∧ IsP n p ∧ SqT K H b (nvs q) ∧ IsP n q ∧ ∀ H', Ex H H' → Q (.bl (inn p q)) H'
def spJoinedL (K : PySem.W.Frag) : Sp := fun vs H Q _ => ∃ (n : Nat) (a b : Addr) (p q : List Nat), vs = [.ref a, .ref b] ∧ n ≤ 4096 ∧ SqT K H a (nvs p) ∧ IsP n p ∧ SqT K H b (nvs q) ∧ IsP n q ∧ ∀ r H', Ex H H' → H r = none → H' r = some (.tup (nvs (mrgs p (numd n q)))) → Q (.ref r) H'
theorem numd_in {n : Nat} {q : List Nat} (h : IsP n q) : inN n (numd n q) := fun xy hxy => by
  unfold numd at hxy
  obtain ⟨k, hk, rfl⟩ := List.mem_map.mp hxy
  have := List.mem_range.mp hk
  have g := h.lo (k + 1) (by omega) (by omega)
  exact ⟨⟨by omega, by omega⟩, g.1, by show itm q (k + 1) ≤ n; omega⟩
theorem dec_nat {x y : Nat} : decide (V.int (x : Int) = V.int (y : Int)) = decide (x = y) := by
  rw [Bool.eq_iff_iff, decide_eq_true_iff, decide_eq_true_iff]
  refine ⟨fun h => ?_, fun h => by rw [h]⟩
  injection h with h
  exact Int.ofNat.inj h
theorem all_take {n : Nat} {f : Nat → Bool} : ((List.range n).map f).all id = (List.range n).all f := by
  rw [List.all_map]
  rfl
section
variable {P : Program} {w : World} {K : PySem.W.Frag} {mg : Str → Option Value} {base : Heap} {AA : Adr}
theorem ok_within (T : Txt K mg AA) : Pr P w K mg base "within" s_within p_within 1 (spWithin K) := by
  refine pr_mk T.f_within sc_within (fun vs H Q E h => ?_) (fun f cdv A outer s H vs Q E hr h => ?_)
  · obtain ⟨n, a, b, p, q, rfl, _⟩ := h
    rfl
  · obtain ⟨n, a, b, p, q, rfl, hn, ha, hP, hb, hQ, qq⟩ := h
    refine ⟨_, (pss_one (ps_ret (pe_callB (cr_all rfl) (by rfl) T.n_all PyProof.Rows.boot_all (pa_cons (pe_lc (own := [("at", 2), ("item", 3)]) (g := gTup K 2 (gCons (gName 2) (gCons (gName 3) gNil))) (tt := tYes) rfl sc_within.nd (pi_enumT (by rfl) T.n_enumerate (pa_cons (pv 0) pa_nil)) (blkOk_by (own := [("at", 2), ("item", 3)]) (N := n_within) (sc := defScope s_within) (by decide +kernel)) (fun _ _ _ _ _ => (pg_tup (by rfl) (pgs_cons (pg_name (i := 2) sc_within.nd rfl (.inl rfl)) (pgs_cons (pg_name (i := 3) sc_within.nd rfl (.inl rfl)) pgs_nil)))) (fun _ _ _ _ _ => pts_nil) (fun _ _ _ _ _ => (pe_cmpR op_eq (pe_ix (ix_tupK (K := K) rfl) (pv 1) (pv 2) (fun _ _ => rfl)) (pe_ix (ix_tupK (K := K) rfl) (pv 1) (pe_op op_sub (pv 3) pe_int) (fun _ _ => rfl)) (nomark _)))) pa_nil)))), ?_⟩
    refine ⟨_, rfl, a, _, rfl, ha, fun D hD => lc_it (walk_enumT (xs := nvs p)) (fun i H' => H D = none ∧ Ex H H' ∧ H' D = some (.lst (((List.range i).map fun k => decide (itm q (k + 1) = itm q (itm p (k + 1)))).map V.bl))) ⟨hD, Ex.new hD, upd_same⟩ (fun _ _ _ hp => ex_t hp.2.1 ha) (fun i v H3 H4 hi hp hy => ?_) (fun H' hp => ?_)⟩
    · obtain ⟨h1, h2, h3⟩ := hp
      obtain ⟨T1, u1, u2, rfl, hT, rfl, g1, g2⟩ := hy
      rw [nvs_len, hP.len] at hi
      have hi1 : 1 ≤ i + 1 := by omega
      have lp := hP.lo (i + 1) hi1 hi
      obtain rfl : u2 = .int (itm p (i + 1) : Nat) := Option.some.inj (g2.symm.trans (nvs_get (itm_get (x := i + 1) hi1 (by rw [hP.len]; omega))))
      obtain rfl : V.int (0 + (i : Int)) = u1 := Option.some.inj g1
      have e4 : Ex H3 (upd H3 T1 (.tup [.int (0 + (i : Int)), .int (itm p (i + 1) : Nat)])) := Ex.new hT
      have hb4 := ex_t (h2.trans e4) hb
      refine ⟨T1, _, rfl, st_of upd_same, rfl, _, _, rfl, _, _, rfl, rfl, rfl, ?_⟩
      refine ⟨_, rfl, _, rfl, b, _, _, .int (itm q (i + 1) : Nat), rfl, rfl, hb4, ?_, _, rfl, _, rfl, _, 1, rfl, rfl, b, _, _, _, rfl, rfl, hb4, itm_at lp.1 (by rw [hQ.len]; omega), rfl, _, e4 _ _ h3, ?_, h1, (h2.trans e4).mut h1, ?_⟩
      · rw [Int.zero_add]
        exact atI_nat (nvs_get (itm_get (x := i + 1) hi1 (by rw [hQ.len]; omega)))
      · rw [List.length_map, List.length_map, List.length_range]
        have : 4097 < sizeLine := by decide
        omega
      · rw [upd_same, List.range_succ, List.map_append, List.map_append, dec_nat]
        rfl
    · obtain ⟨h1, h2, h3⟩ := hp
      rw [nvs_len] at h3
      refine ⟨D, _, rfl, sq_of h3, ?_⟩
      rw [all_take]
      exact qq _ h2
theorem ok_law_inner (T : Txt K mg AA) : Pr P w K mg base "_law_inner" s_law_inner p_law_inner 1 (spWithin K) := by
  refine pr_mk T.f_law_inner sc_law_inner (fun vs H Q E h => ?_) (fun f cdv A outer s H vs Q E hr h => ?_)
  · obtain ⟨n, a, b, p, q, rfl, _⟩ := h
    rfl
  · obtain ⟨n, a, b, p, q, rfl, hn, ha, hP, hb, hQ, qq⟩ := h
    refine ⟨_, (pss_one (ps_ret (pe_cmpR (op_eqD hr.units) (pe_lc (own := [("_law_k", 2)]) (g := gName 2) rfl sc_law_inner.nd (pi_range1 (by rfl) T.n_range (pa_cons (pe_callB (call_len_seqK (K := K) rfl) (by rfl) T.n_len PySem.boot_len (pa_cons (pv 0) pa_nil)) pa_nil)) (blkOk_by (own := [("_law_k", 2)]) (N := n_law_inner) (sc := defScope s_law_inner) (by decide +kernel)) (fun _ _ _ _ _ => (pg_name (i := 2) sc_law_inner.nd rfl (.inl rfl))) (fun _ _ _ _ _ => (pts_one (pt_cmpR op_ne (pe_ix (ix_tupK (K := K) rfl) (pv 1) (pv 2) (fun _ _ => rfl)) (pe_ix (ix_tupK (K := K) rfl) (pv 1) (pe_op op_sub (pe_ix (ix_tupK (K := K) rfl) (pv 0) (pv 2) (fun _ _ => rfl)) pe_int) (fun _ _ => rfl)) (nomark _)))) (fun _ _ _ _ _ => (pv 2))) (pe_lst pa_nil) (nomark _)))), ?_⟩
    refine ⟨_, rfl, a, _, rfl, .inr ha, _, rfl, ?_⟩
    rw [nvs_len, hP.len]
    refine ⟨by omega, by omega, ?_⟩
    rw [show ((n : Nat) : Int).toNat = n by omega]
    refine fun D hD => lc_it walk_range (fun i H' => H D = none ∧ Ex H H' ∧ H' D = some (.lst (nvs ((List.range i).filter fun k => !decide (itm q (k + 1) = itm q (itm p (k + 1))))))) ⟨hD, Ex.new hD, upd_same⟩ (fun _ _ _ _ => trivial) (fun i v H3 H4 hi hp hy => ?_) (fun H' hp => ?_)
    · obtain ⟨h1, h2, h3⟩ := hp
      obtain ⟨rfl, rfl⟩ := hy
      have hi1 : 1 ≤ i + 1 := by omega
      have lp := hP.lo (i + 1) hi1 hi
      have ha4 := ex_t h2 ha
      have hb4 := ex_t h2 hb
      have z0 : (0 : Int) + (i : Int) = (i : Int) := Int.zero_add _
      refine ⟨rfl, _, rfl, _, rfl, b, _, _, .int (itm q (i + 1) : Nat), rfl, rfl, hb4, ?_, _, rfl, _, rfl, _, rfl, a, _, _, .int (itm p (i + 1) : Nat), rfl, rfl, ha4, ?_, _, 1, rfl, rfl, b, _, _, _, rfl, rfl, hb4, itm_at lp.1 (by rw [hQ.len]; omega), rfl, _, rfl, ?_⟩
      · show atI (nvs q) (0 + (i : Int)) = _
        rw [z0]
        exact atI_nat (nvs_get (itm_get (x := i + 1) hi1 (by rw [hQ.len]; omega)))
      · show atI (nvs p) (0 + (i : Int)) = _
        rw [z0]
        exact atI_nat (nvs_get (itm_get (x := i + 1) hi1 (by rw [hP.len]; omega)))
      rw [dec_nat, List.range_succ, List.filter_append]
      by_cases g : itm q (i + 1) = itm q (itm p (i + 1))
      · rw [decide_eq_true g]
        refine iteF ⟨h1, h2, ?_⟩
        rw [h3]
        simp [g]
      · rw [decide_eq_false g]
        refine iteT ⟨_, rfl, _, h3, ?_, h1, h2.mut h1, ?_⟩
        · rw [nvs_len]
          have h5 : ((List.range i).filter fun k => !decide (itm q (k + 1) = itm q (itm p (k + 1)))).length ≤ i := Nat.le_trans (List.length_filter_le ..) (by rw [List.length_range]; exact Nat.le_refl _)
          have : 4097 < sizeLine := by decide
          omega
        · rw [upd_same]
          simp only [g, List.filter_cons, decide_false, Bool.not_false, if_true, List.filter_nil]
          unfold nvs
          rw [List.map_append]
          show some (HO.lst (_ ++ [V.int (0 + (i : Int))])) = _
          rw [z0]
          rfl
    · obtain ⟨h1, h2, h3⟩ := hp
      refine ⟨by show 0 ≤ sizeLine; decide, fun pe npe => ⟨_, .list [], .lst (sq_of (Ex.new npe _ _ h3)) (dp_nats _), .lst (sq_of upd_same) .nil, shaped_nats _, by decide +kernel, ?_⟩⟩
      rw [eqv_nats]
      have e : decide (((List.range n).filter fun k => !decide (itm q (k + 1) = itm q (itm p (k + 1)))) = []) = inn p q := by
        unfold inn
        rw [hP.len, Bool.eq_iff_iff, decide_eq_true_iff, List.filter_eq_nil_iff, List.all_eq_true]
        refine forall_congr' fun k => forall_congr' fun _ => ?_
        simp
      rw [e]
      exact qq _ (h2.trans (Ex.new npe))
theorem ok_law_joined (T : Txt K mg AA) : Pr P w K mg base "_law_joined" s_law_joined p_law_joined 2 (spJoinedL K) := by
  refine pr_mk T.f_law_joined sc_law_joined (fun vs H Q E h => ?_) (fun f cdv A outer s H vs Q E hr h => ?_)
  · obtain ⟨n, a, b, p, q, rfl, _⟩ := h
    rfl
  · obtain ⟨n, a, b, p, q, rfl, hn, ha, hP, hb, hQ, qq⟩ := h
    refine ⟨_, (pss_one (ps_ret (pcall (ok_law_merged T) hr (pa_cons (pv 0) (pa_cons (pe_lc (own := [("_law_k", 2)]) (g := gName 2) (tt := tYes) rfl sc_law_joined.nd (pi_range1 (by rfl) T.n_range (pa_cons (pe_callB (call_len_seqK (K := K) rfl) (by rfl) T.n_len PySem.boot_len (pa_cons (pv 1) pa_nil)) pa_nil)) (blkOk_by (own := [("_law_k", 2)]) (N := n_law_joined) (sc := defScope s_law_joined) (by decide +kernel)) (fun _ _ _ _ _ => (pg_name (i := 2) sc_law_joined.nd rfl (.inl rfl))) (fun _ _ _ _ _ => pts_nil) (fun _ _ _ _ _ => (pe_tup (pa_cons (pe_op op_add (pv 2) pe_int) (pa_cons (pe_ix (ix_tupK (K := K) rfl) (pv 1) (pv 2) (fun _ _ => rfl)) pa_nil))))) pa_nil))))), ?_⟩
    refine ⟨_, rfl, _, rfl, b, _, rfl, .inr hb, ?_⟩
    rw [nvs_len, hQ.len]
    refine ⟨_, rfl, by omega, by omega, ?_⟩
    rw [show ((n : Nat) : Int).toNat = n by omega]
    refine fun D hD => lc_it walk_range (fun i H' => H D = none ∧ Ex H H' ∧ ∃ ws, H' D = some (.lst ws) ∧ Prh H' ws (numd i q)) ⟨hD, Ex.new hD, [], upd_same, rfl, fun i v hv => by cases hv⟩ (fun _ _ _ _ => trivial) (fun i v H3 H4 hi hp hy => ?_) (fun H' hp => ?_)
    · obtain ⟨h1, h2, ws, h3, h4⟩ := hp
      obtain ⟨rfl, rfl⟩ := hy
      have hb4 := ex_t h2 hb
      have z0 : (0 : Int) + (i : Int) = (i : Int) := Int.zero_add _
      refine ⟨rfl, _, rfl, _, 1, rfl, rfl, _, rfl, _, rfl, b, _, _, .int (itm q (i + 1) : Nat), rfl, rfl, hb4, ?_, by show 2 ≤ sizeLine; decide, fun t nt => ?_⟩
      · show atI (nvs q) (0 + (i : Int)) = _
        rw [z0]
        exact atI_nat (nvs_get (itm_get (x := i + 1) (by omega) (by rw [hQ.len]; omega)))
      have e4 : Ex H4 (upd H4 t (.tup [.int (0 + (i : Int) + 1), .int (itm q (i + 1) : Nat)])) := Ex.new nt
      refine ⟨_, e4 _ _ h3, ?_, h1, (h2.trans e4).mut h1, _, upd_same, ?_⟩
      · rw [h4.1]
        unfold numd
        rw [List.length_map, List.length_range]
        have : 4097 < sizeLine := by decide
        omega
      · unfold numd
        rw [List.range_succ, List.map_append]
        refine Prh.put (xs := ws) ?_ (e4 _ _ h3)
        refine (h4.ex e4).snoc ?_
        rw [upd_same]
        have : (0 + (i : Int) + 1) = ((i + 1 : Nat) : Int) := by omega
        rw [this]
    · obtain ⟨h1, h2, ws, h3, h4⟩ := hp
      exact ⟨n, a, D, p, ws, numd n q, rfl, hn, ex_t h2 ha, hP, sq_of h3, h4.to, numd_in hQ, fun r H5 e5 n5 h5 => qq r H5 (h2.trans e5) (fresh_back h2 n5) h5⟩
end
end Eyes

set_option Elab.async false
set_option linter.all false
set_option maxRecDepth 100000
set_option maxHeartbeats 4000000
/-! enumerate(list), enumerate(.., start=k) in a for. -/
namespace Eyes
open PySem PySem.Spec PyProof.Rows L2
def IteL (K : PySem.W.Frag) (a : Addr) (k : Int) : It :=
  ⟨fun i H => ∃ (xs : List V) (x : V), SqL K H a xs ∧ xs[i]? = some x, fun i H v H' => ∃ T x, v = .ref T ∧ H T = none ∧ H' = upd H T (.tup [.int (k + (i : Nat)), x]) ∧ ∀ xs, SqL K H a xs → xs[i]? = some x, fun i H => ∃ xs : List V, SqL K H a xs ∧ xs.length ≤ i⟩
theorem turn_enumL {P : Program} {w : World} {K : PySem.W.Frag} {elts : List Expr} {kk : Nat} {tpos : Pos} (a e it : Addr) (k : Int) (nai : a ≠ it) :
    Turn P w K (.Tuple elts kk tpos) (IteL K a k) [e, it] e (fun i h => (∃ old, IsEnum h e it (k + (i : Nat)) old) ∧ h.IsListIter it a i ∧ e ≠ it ∧ a ≠ e) where
  mem := by simp
  obj := fun i h st b hb => by
    obtain ⟨⟨old, he⟩, ⟨o, ho, hc, hd⟩, _⟩ := st
    rcases (show b = e ∨ b = it by simpa using hb) with z | z
    · rw [z]
      exact ⟨_, he, fun v q => nomatch q⟩
    · rw [z]
      exact ⟨o, ho, fun v q => by rw [hd] at q; cases q⟩
  keep := fun i h h' st kp => by
    obtain ⟨⟨old, he⟩, hi, hne, hna⟩ := st
    exact ⟨⟨old, kp e (by simp) _ he⟩, hi.at fun o q => kp it (by simp) o q, hne, hna⟩
  item := by
    intro X hP hw hK hc i pins s σ H E I hf st hg
    subst hP hw hK
    obtain ⟨⟨old, he⟩, hit, hne, hna⟩ := st
    obtain ⟨xs, x, hq, hx⟩ := hg
    obtain ⟨its, rv, p, hz⟩ := I.list hq
    obtain ⟨u, hu, ru⟩ := rv.get hx
    have el : e < s.heap.objs.size := Heap.lt_size he
    have il : it < s.heap.objs.size := by
      obtain ⟨_, q, _⟩ := hit
      exact Heap.lt_size q
    have isT : s.heap.IsList a its.toArray := p.isList
    have lti : i < its.length := by
      rcases Nat.lt_or_ge i its.length with z | z
      · exact z
      · rw [List.getElem?_eq_none z] at hu
        cases hu
    have D := Draws.list (prog := X.prog) (w := X.w) (A := X.A.in1) (by have := I.ok.hd hc; simpa using this) it a nai its.toArray
    refine wpAny_pyNext_enum_itemC D he ⟨hit, isT⟩ (by simpa using lti) hne (by simp [hne, Ne.symm hna]) fun y h' tk hy ho hst hT hsz hk => ?_
    have ey : y = u := by
      have z : its.toArray[i]? = some y := hy
      rw [List.getElem?_toArray, hu] at z
      exact (Option.some.inj z).symm
    subst ey
    refine ⟨_, rfl, wpAny_letOwnedTupleGo_enum (s := { s with heap := h', toks := tk + 1 }) ho fun h2 he2 sb => ?_⟩
    have T2 : h2.get? s.heap.objs.size = some { cls := .type "tuple", data := .seq #[.int (k + (i : Nat)) tk, y] } := (sb.2 _ (Nat.ne_of_gt el)).trans hT
    have new : ObjOk X.prog X.w (upd H s.heap.objs.size (.tup [.int (k + (i : Nat)), x])) h2 s.heap.objs.size (.tup [.int (k + (i : Nat)), x]) :=
      ⟨by show 2 ≤ sizeLine; decide, [.int (k + (i : Nat)) tk, y], .cons ⟨_, rfl⟩ (.cons ru .nil), ⟨_, T2, rfl, _, rfl⟩⟩
    have I1 : Inv X pins σ (upd H s.heap.objs.size (.tup [.int (k + (i : Nat)), x])) { s with heap := h2, toks := tk + 1 } :=
      I.turnedNew (ch := [e, it]) (fun b ob hb q => (sb.2 b (fun z => hb (by simp [z]))).trans (hk b ob (fun z => hb (by simp [z])) (fun z => hb (by simp [z])) q)) hf (Nat.le_refl _) new
    refine ⟨.ref s.heap.objs.size, _, I1, rfl, ⟨_, x, rfl, I.hok.fresh (Nat.le_refl _), rfl, fun ys hy => by rw [I.list_inj hy hq]; exact hx⟩, ⟨⟨y, ?_⟩, hst.1.at fun o q => (sb.2 it (Ne.symm hne)).trans q, hne, hna⟩, fun b hb => ?_⟩
    · rw [show (k + ((i + 1 : Nat) : Int)) = k + (i : Nat) + 1 by omega]
      exact he2
    · have lt : b < s.heap.objs.size := by
        rcases (show b = e ∨ b = it by simpa using hb) with z | z
        · rw [z]; exact el
        · rw [z]; exact il
      rw [upd_ne (Nat.ne_of_lt lt)]
      exact (hf b hb).1
  done := by
    intro X hP hw hK hc i pins s σ H E I hf st hg
    subst hP hw hK
    obtain ⟨⟨old, he⟩, hit, hne, hna⟩ := st
    obtain ⟨xs, hq, hx⟩ := hg
    obtain ⟨its, rv, p, hz⟩ := I.list hq
    have isT : s.heap.IsList a its.toArray := p.isList
    obtain ⟨f0, f1, f2, f3, f4, f5⟩ := hf it (by simp)
    have hl := rv.length
    have hh : X.A.in1.in1.handled = none := by have := I.ok.hd hc; simpa using this
    -- what is behind the end: a draw of a tuple as long as the count
    have stop : ∀ (Q : Value → Shared → Prop) (E : Value → Shared → Prop), (∀ h' e, Heap.ExtBut it s.heap h' → (∃ o, h'.get? e = some o ∧ o.cls = .type "StopIteration") → E (.ref e) { s with heap := h' }) → wpAny (model X.prog X.w) X.A.in1 (Builtin.SmallTypes.nextOf (.ref it)) Q E s :=
      fun Q E hE => wpAny_nextOf_list_end (by have := I.ok.hd hc; simpa using this) hit isT (by simp; omega) hE
    have hT : s.TypeIs (.ref e) "enumerate" := ⟨_, he, rfl⟩
    unfold pyNext
    refine wpAny_bind (wpAny_attempt (wpAny_callSpecial?_slot (name := Str.ofString "__next__") hT PySem.F.slot_enumerate_next (wpAny_call_entry PySem.F.slot_enumerate_next hT PySem.F.entry_enumerate_next ?_ (PySem.F.args_enumerate_next_1 _))))
    show wpAny _ _ (field (.ref e) 2 >>= _) _ _ _
    refine wpAny_bind (wpAny_field he rfl (x := .ref it) rfl (wpAny_bind (stop _ _ fun h' x eb hx' => ?_)))
    obtain ⟨o, ho, hc'⟩ := hx'
    refine wpAny_bind (wpAny_isInstance (T := "StopIteration") (b := true) ⟨o, ho, hc'⟩ isSubtype_stop (wpAny_pure ?_))
    exact ⟨rfl, I.turned (t' := s.toks) (fun b o hb q => eb b o hb q) f0 f1 f3 f4 f5⟩
  self := fun A i s Q E st h => by
    obtain ⟨⟨_, he⟩, _⟩ := st
    exact wpAny_pyIter_enum he h
theorem walk_enumL {K : PySem.W.Frag} {a : Addr} {k : Int} {xs : List V} : Walk (IteL K a k) xs.length (fun H => SqL K H a xs) (YPair (fun i => some (.int (k + (i : Nat)))) (fun i => xs[i]?)) := by
  refine ⟨fun i H hi q => ⟨xs, xs[i], q, by simp [hi]⟩, fun H q => ⟨xs, q, Nat.le_refl _⟩, fun i H v H' hi q y => ?_⟩
  obtain ⟨T, x, h1, h2, h3, h4⟩ := y
  exact ⟨T, _, x, h1, h2, h3, rfl, h4 xs q⟩

theorem callWith_tyK {M : Model} {A : Around} {E : Value → Shared → Prop} {s : Shared} {env : Env} {pos : Pos} {T : String} {e : Expr} {rest : List Expr} {kws : List Keyword} {Q : Value → Shared → Prop} (hall : (backToKw pos (keywordEach kws env)).all (·.1.isSome) = true)
    (h : wpAny M A (spliced (backTo pos (starEach (e :: rest) env))) (fun vs s₁ => wpAny M A (evalAll ((backToKw pos (keywordEach kws env)).map (·.2)))
      (fun ks s₂ => wpAny M A (call (.type T) vs (((backToKw pos (keywordEach kws env)).filterMap (·.1)).zip ks)) Q E s₂) E s₁) E s)
    (hplain : ((backTo pos (starEach (e :: rest) env)).any (·.1) || (backToKw pos (keywordEach kws env)).any (·.1.isNone)) = false := by rfl) (he : starEach (e :: rest) env = (false, eval e env) :: starEach rest env := by rfl) :
    wpAny M A (callWith pos (.type T) [] (backTo pos (starEach (e :: rest) env)) (backToKw pos (keywordEach kws env))) Q E s :=
  PySem.W.callWith_of (P := fun _ => True) hplain (fun h _ => ⟨.machine, .inr (.inl rfl), fun A Q E s _ q => wpAny_pure q⟩)
    (evalArgs_kw2 hall (thn h fun vs s1 h1 => thn h1 fun ks s2 h2 => ⟨trivial, h2⟩) he)
def iEnumS (J : Addr → Int → It) (S : Hp → Addr → List V → Prop) (ta tk : TA) : TI := fun σ H R => ta σ H fun vs H1 => tk σ H1 fun ws H2 => ∃ a k xs, vs = [.ref a] ∧ ws = [.int k] ∧ -(2 ^ 63) ≤ k ∧ k < 2 ^ 63 ∧ S H2 a xs ∧ R (J a k) H2
theorem pi_enumTS {X : Cx} {e k : Expr} {ta tk : TA} {p pos tpos kpos : Pos} {elts : List Expr} {kk : Nat} (hg : Gl X "enumerate") (hm : X.mg "enumerate" = none) (ha : PA X [e] ta) (hk : PK X [⟨some "start", k, kpos⟩] tk)
    (hpl : ((backTo pos (starEach [e] X.env)).any (·.1) || (backToKw pos (keywordEach [⟨some "start", k, kpos⟩] X.env)).any (·.1.isNone)) = false := by rfl) (he : starEach [e] X.env = (false, eval e X.env) :: starEach [] X.env := by rfl) :
    PI X (.Tuple elts kk tpos) (.Call (.Name "enumerate" p) [e] [⟨some "start", k, kpos⟩] pos) (iEnumS (IteT X.K) (SqT X.K) ta tk) := by
  refine ⟨fun pins s σ H R I h => ?_⟩
  refine wpAny_Call_Name_kw (ld_blt I hg hm boot_enumerate (callWith_tyK rfl (thn (ha.run pos pins s σ H _ I h) fun us s0 ⟨vs, H0, I0, r0, q0⟩ => thn (hk.run pos pins s0 σ H0 _ I0 q0) fun ks s1 ⟨ws, H1, I1, r1, a, c, xs, ex, ew, c0, c1, hq, q⟩ => ?_) hpl he))
  subst ex ew
  obtain rfl := Vals.ref1 r0
  obtain ⟨u, rfl, ru⟩ := vals1 r1
  obtain ⟨t, rfl⟩ := ru
  obtain ⟨its, rv, tp, hz⟩ := I1.tuple hq
  have isT : s1.heap.IsTuple a its.toArray := by
    obtain ⟨o, e1, e2, n, e3⟩ := tp
    exact ⟨o, e1, e2, n, e3⟩
  have al : a < s1.heap.objs.size := by
    obtain ⟨o, e1, _⟩ := isT
    exact Heap.lt_size e1
  refine enum_begins_start (begins_tuple a its.toArray) isT c0 c1 fun h' he hit hsz hk => wpAny_pyIter_enum he ?_
  have I2 : Inv X pins σ H1 { s1 with heap := h' } := I1.kept (t' := s1.toks) hk
  refine ⟨s1.heap.objs.size + 1, [s1.heap.objs.size + 1, s1.heap.objs.size], _, _, H1, rfl, I2, turn_enumT a (s1.heap.objs.size + 1) s1.heap.objs.size c (Nat.ne_of_lt al), ⟨⟨.none, by simpa using he⟩, ⟨_, hit, rfl, rfl⟩, Nat.succ_ne_self _, Nat.ne_of_lt (Nat.lt_succ_of_lt al)⟩, fun b hb => ?_, q⟩
  have hle : s1.heap.objs.size ≤ b := by
    rcases (show b = s1.heap.objs.size + 1 ∨ b = s1.heap.objs.size by simpa using hb) with z | z
    · rw [z]; exact Nat.le_add_right _ _
    · rw [z]; exact Nat.le_refl _
  exact I1.fpOk hle (I1.hok.fresh hle)
theorem pi_enumLS {X : Cx} {e k : Expr} {ta tk : TA} {p pos tpos kpos : Pos} {elts : List Expr} {kk : Nat} (hg : Gl X "enumerate") (hm : X.mg "enumerate" = none) (ha : PA X [e] ta) (hk : PK X [⟨some "start", k, kpos⟩] tk)
    (hpl : ((backTo pos (starEach [e] X.env)).any (·.1) || (backToKw pos (keywordEach [⟨some "start", k, kpos⟩] X.env)).any (·.1.isNone)) = false := by rfl) (he : starEach [e] X.env = (false, eval e X.env) :: starEach [] X.env := by rfl) :
    PI X (.Tuple elts kk tpos) (.Call (.Name "enumerate" p) [e] [⟨some "start", k, kpos⟩] pos) (iEnumS (IteL X.K) (SqL X.K) ta tk) := by
  refine ⟨fun pins s σ H R I h => ?_⟩
  refine wpAny_Call_Name_kw (ld_blt I hg hm boot_enumerate (callWith_tyK rfl (thn (ha.run pos pins s σ H _ I h) fun us s0 ⟨vs, H0, I0, r0, q0⟩ => thn (hk.run pos pins s0 σ H0 _ I0 q0) fun ks s1 ⟨ws, H1, I1, r1, a, c, xs, ex, ew, c0, c1, hq, q⟩ => ?_) hpl he))
  subst ex ew
  obtain rfl := Vals.ref1 r0
  obtain ⟨u, rfl, ru⟩ := vals1 r1
  obtain ⟨t, rfl⟩ := ru
  obtain ⟨its, rv, tp, hz⟩ := I1.list hq
  have isT : s1.heap.IsList a its.toArray := tp.isList
  have al : a < s1.heap.objs.size := by
    obtain ⟨o, e1, _⟩ := isT
    exact Heap.lt_size e1
  refine enum_begins_start (begins_list a its.toArray) isT c0 c1 fun h' he hit hsz hk => wpAny_pyIter_enum he ?_
  have I2 : Inv X pins σ H1 { s1 with heap := h' } := I1.kept (t' := s1.toks) hk
  refine ⟨s1.heap.objs.size + 1, [s1.heap.objs.size + 1, s1.heap.objs.size], _, _, H1, rfl, I2, turn_enumL a (s1.heap.objs.size + 1) s1.heap.objs.size c (Nat.ne_of_lt al), ⟨⟨.none, by simpa using he⟩, ⟨_, hit, rfl, rfl⟩, Nat.succ_ne_self _, Nat.ne_of_lt (Nat.lt_succ_of_lt al)⟩, fun b hb => ?_, q⟩
  have hle : s1.heap.objs.size ≤ b := by
    rcases (show b = s1.heap.objs.size + 1 ∨ b = s1.heap.objs.size by simpa using hb) with z | z
    · rw [z]; exact Nat.le_add_right _ _
    · rw [z]; exact Nat.le_refl _
  exact I1.fpOk hle (I1.hok.fresh hle)
theorem pi_enumTSK {X : Cx} {K : PySem.W.Frag} {e k : Expr} {ta tk : TA} {p pos tpos kpos : Pos} {elts : List Expr} {kk : Nat} (hK : X.K = K) (hg : Gl X "enumerate") (hm : X.mg "enumerate" = none) (ha : PA X [e] ta) (hk : PK X [⟨some "start", k, kpos⟩] tk)
    (hpl : ((backTo pos (starEach [e] X.env)).any (·.1) || (backToKw pos (keywordEach [⟨some "start", k, kpos⟩] X.env)).any (·.1.isNone)) = false := by rfl) (he : starEach [e] X.env = (false, eval e X.env) :: starEach [] X.env := by rfl) :
    PI X (.Tuple elts kk tpos) (.Call (.Name "enumerate" p) [e] [⟨some "start", k, kpos⟩] pos) (iEnumS (IteT K) (SqT K) ta tk) := hK ▸ pi_enumTS hg hm ha hk hpl he
theorem pi_enumLSK {X : Cx} {K : PySem.W.Frag} {e k : Expr} {ta tk : TA} {p pos tpos kpos : Pos} {elts : List Expr} {kk : Nat} (hK : X.K = K) (hg : Gl X "enumerate") (hm : X.mg "enumerate" = none) (ha : PA X [e] ta) (hk : PK X [⟨some "start", k, kpos⟩] tk)
    (hpl : ((backTo pos (starEach [e] X.env)).any (·.1) || (backToKw pos (keywordEach [⟨some "start", k, kpos⟩] X.env)).any (·.1.isNone)) = false := by rfl) (he : starEach [e] X.env = (false, eval e X.env) :: starEach [] X.env := by rfl) :
    PI X (.Tuple elts kk tpos) (.Call (.Name "enumerate" p) [e] [⟨some "start", k, kpos⟩] pos) (iEnumS (IteL K) (SqL K) ta tk) := hK ▸ pi_enumLS hg hm ha hk hpl he
end Eyes

set_option Elab.async false
set_option linter.all false
set_option maxRecDepth 100000
set_option maxHeartbeats 4000000
namespace Eyes
open PySem PySem.Spec PyProof.Rows L2 Evl TL
theorem it_byW {J : It} {n : Nat} {G : Hp → Prop} {Y : Nat → Hp → V → Hp → Prop} (w : Walk J n G Y) {Qd : Hp → Prop} {B : V → Hp → (Hp → Prop) → Prop} {H0 : Hp} (Pv : Nat → Hp → Prop) (h0 : Pv 0 H0) (hG : ∀ i H, i ≤ n → Pv i H → G H)
    (hs : ∀ i x H H', i < n → Pv i H → Y i H x H' → B x H' (Pv (i + 1))) (hd : ∀ H, Pv n H → Qd H) :
    ∃ W : Nat → Nat → Hp → Prop, (∃ m, W 0 m H0) ∧ ∀ i m H, W i m H →
      (J.stop i H ∧ Qd H) ∨ (J.go i H ∧ ∃ Nx : Hp → Prop, (∀ H', Nx H' → ∃ m', m' < m ∧ W (i + 1) m' H') ∧ ∀ x H', J.yld i H x H' → B x H' Nx) := by
  refine ⟨fun i m H => m = n - i ∧ i ≤ n ∧ Pv i H, ⟨n, by simp, Nat.zero_le _, h0⟩, ?_⟩
  rintro i m H ⟨rfl, hi, p⟩
  have g := hG i H hi p
  by_cases hlt : i < n
  · exact .inr ⟨w.goes i H hlt g, Pv (i + 1), fun H' p' => ⟨n - (i + 1), by omega, rfl, hlt, p'⟩, fun x H' y => hs i x H H' hlt p (w.yields i H x H' hlt g y)⟩
  · have e : i = n := by omega
    subst e
    exact .inl ⟨w.stops H g, hd H p⟩
def less (n : Nat) (p : List Nat) : List (Nat × Nat) := (numd n p).filter fun xy => decide (xy.2 < xy.1)
def Pts (K : PySem.W.Frag) (n : Nat) (H : Hp) (us : List V) (ps : List (List Nat)) : Prop := us.length = ps.length ∧ ∀ (i : Nat) u, us[i]? = some u → ∃ q p, u = .ref q ∧ ps[i]? = some p ∧ SqT K H q (nvs p) ∧ IsP n p
def spJoined (K : PySem.W.Frag) : Sp := fun vs H Q _ => ∃ (n : Nat) (a : Addr) (us : List V) (ps : List (List Nat)), vs = [.ref a] ∧ n ≤ 4096 ∧ ps.length ≤ 200 ∧ 0 < ps.length ∧ SqL K H a us ∧ Pts K n H us ps ∧ ∀ r H', Ex H H' → H r = none → H' r = some (.tup (nvs (mrgs (alone n) (ps.flatMap (less n))))) → Q (.ref r) H'
theorem numd_get {n k : Nat} {p : List Nat} (h : k < n) : (numd n p)[k]? = some (k + 1, itm p (k + 1)) := by
  unfold numd
  rw [List.getElem?_map, List.getElem?_range h]
  rfl
theorem numd_len {n : Nat} {p : List Nat} : (numd n p).length = n := by
  unfold numd
  rw [List.length_map, List.length_range]
theorem less_len {n : Nat} {p : List Nat} {i : Nat} : (((numd n p).take i).filter fun xy => decide (xy.2 < xy.1)).length ≤ n := by
  refine Nat.le_trans (List.length_filter_le ..) ?_
  rw [List.length_take, numd_len]
  exact Nat.min_le_right ..
theorem less_in {n : Nat} {p : List Nat} (h : IsP n p) : inN n (less n p) := fun xy hxy => numd_in h xy (List.mem_filter.mp hxy).1
section
variable {P : Program} {w : World} {K : PySem.W.Frag} {mg : Str → Option Value} {base : Heap} {AA : Adr}
theorem ok_joined (T : Txt K mg AA) : Pr P w K mg base "joined" s_joined p_joined 2 (spJoined K) := by
  refine pr_mk T.f_joined sc_joined (fun vs H Q E h => ?_) (fun f cdv A outer s H vs Q E hr h => ?_)
  · obtain ⟨n, a, us, ps, rfl, _⟩ := h
    rfl
  · obtain ⟨n, a, us, ps, rfl, hn, hp200, hp0, ha, hps, qq⟩ := h
    refine ⟨_, (pss_cons (ps_setLc2 (i := 1) (own := [("parting", 2), ("case", 3), ("item", 4)]) (vs1 := [3, 4]) (g := gName 2) (tt := tYes) (g1 := gTup K 2 (gCons (gName 3) (gCons (gName 4) gNil))) rfl sc_joined.nd rfl rfl (sw_true rfl rfl rfl (by decide +kernel)) (pi_list (pv 0)) (blkOk_by (own := [("parting", 2), ("case", 3), ("item", 4)]) (N := n_joined) (sc := defScope s_joined) (by decide +kernel)) (by decide) (fun _ _ _ _ _ => (pg_name (i := 2) sc_joined.nd rfl (.inl rfl))) (fun _ _ _ _ _ => pts_nil) (fun _ _ _ _ _ => (pi_enumTSK (K := K) rfl (by rfl) T.n_enumerate (pa_cons (pv 2) pa_nil) (pk_cons pe_int pk_nil))) (fun _ _ _ _ _ => (pg_tup (by rfl) (pgs_cons (pg_name (i := 3) sc_joined.nd rfl (.inl rfl)) (pgs_cons (pg_name (i := 4) sc_joined.nd rfl (.inl rfl)) pgs_nil)))) (fun _ _ _ _ _ => (pts_one (pt_cmpR op_lt (pv 4) (pv 3) (nomark _)))) (fun _ _ _ _ _ => (pe_tup (pa_cons (pv 3) (pa_cons (pv 4) pa_nil)))))
      (pss_one (ps_ret (pcall (ok_linked T) hr (pa_cons (pe_callB call_len (by rfl) T.n_len PySem.boot_len (pa_cons (pe_ix (ix_listK (K := K) rfl) (pv 0) pe_int (fun _ _ => rfl)) pa_nil)) (pa_cons (pv 1) pa_nil)))))), ?_⟩
    have hflen : ∀ i : Nat, ((ps.take i).flatMap (less n)).length ≤ i * n := fun i => by
      have h1 : ∀ l : List (List Nat), (l.flatMap (less n)).length ≤ l.length * n := fun l => by
        induction l with
        | nil => exact Nat.zero_le _
        | cons p l ih =>
          rw [List.flatMap_cons, List.length_append, List.length_cons, Nat.succ_mul]
          have : (less n p).length ≤ n := Nat.le_trans (List.length_filter_le ..) (by rw [numd_len]; exact Nat.le_refl _)
          omega
      refine Nat.le_trans (h1 _) (Nat.mul_le_mul_right _ ?_)
      rw [List.length_take]
      exact Nat.min_le_left ..
    refine ⟨_, rfl, a, rfl, ⟨us, ha⟩, fun D hD => it_byW (walk_list (xs := us)) (fun i H' => H D = none ∧ Ex H H' ∧ ∃ ws, H' D = some (.lst ws) ∧ Prh H' ws ((ps.take i).flatMap (less n))) ⟨hD, Ex.new hD, [], upd_same, rfl, fun i v hv => by cases hv⟩ (fun _ _ _ hp => ex_l hp.2.1 ha) (fun i v H3 H4 hi hp hy => ?_) (fun H' hp => ?_)⟩
    · obtain ⟨rfl, hv⟩ := hy
      obtain ⟨h1, h2, ws, h3, h4⟩ := hp
      obtain ⟨qa, p, rfl, hpi, hqa, hP⟩ := hps.2 i v hv
      refine ⟨rfl, _, rfl, qa, 1, _, rfl, rfl, by decide, by decide, ex_t h2 hqa, ?_⟩
      refine it_byW (walk_enumT (xs := nvs p)) (fun j H' => Ex H H' ∧ ∃ ws, H' D = some (.lst ws) ∧ Prh H' ws ((ps.take i).flatMap (less n) ++ ((numd n p).take j).filter fun xy => decide (xy.2 < xy.1))) ⟨h2, ws, h3, ?_⟩ (fun _ _ _ hq => ex_t hq.1 hqa) (fun j u H6 H7 hj hq hy6 => ?_) (fun H' hq => ?_)
      · rw [List.take_zero, List.filter_nil, List.append_nil]
        exact h4
      · obtain ⟨e6, ws6, h6, h7⟩ := hq
        obtain ⟨T1, u1, u2, rfl, hT, rfl, g1, g2⟩ := hy6
        rw [nvs_len, hP.len] at hj
        obtain rfl : u2 = .int (itm p (j + 1) : Nat) := Option.some.inj (g2.symm.trans (nvs_get (itm_get (x := j + 1) (by omega) (by rw [hP.len]; omega))))
        obtain rfl : V.int (1 + (j : Int)) = u1 := Option.some.inj g1
        have e7 : Ex H6 (upd H6 T1 (.tup [.int (1 + (j : Int)), .int (itm p (j + 1) : Nat)])) := Ex.new hT
        have htk : (numd n p).take (j + 1) = (numd n p).take j ++ [(j + 1, itm p (j + 1))] := by
          rw [List.take_add_one, numd_get hj]
          rfl
        refine ⟨T1, _, rfl, st_of upd_same, rfl, _, _, rfl, _, _, rfl, rfl, rfl, _, rfl, _, rfl, _, _, rfl, rfl, _, rfl, ite2 (fun hlt => ?_) (fun hlt => ?_)⟩
        · have hlt : itm p (j + 1) < j + 1 := by
            have := of_decide_eq_true hlt
            omega
          refine ⟨_, rfl, _, rfl, by show 2 ≤ sizeLine; decide, fun t nt => ?_⟩
          have e8 := e7.trans (Ex.new (o := .tup [.int (1 + (j : Int)), .int (itm p (j + 1) : Nat)]) nt)
          refine ⟨_, e8 _ _ h6, ?_, (e6.trans e8).mut h1, _, upd_same, ?_⟩
          · rw [h7.1, List.length_append]
            have a1 := hflen i
            have a2 := less_len (n := n) (p := p) (i := j)
            have a3 : i < ps.length := by rw [← hps.1]; exact hi
            have a4 : i * n ≤ 200 * 4096 := Nat.mul_le_mul (by omega) hn
            have : 200 * 4096 + 4096 < sizeLine := by decide
            omega
          · refine Prh.put (xs := ws6) ?_ (e8 _ _ h6)
            rw [htk, List.filter_append, ← List.append_assoc, show ([(j + 1, itm p (j + 1))].filter fun xy => decide (xy.2 < xy.1)) = [(j + 1, itm p (j + 1))] by simp [hlt]]
            refine (h7.ex e8).snoc ?_
            rw [upd_same]
            have : (1 + (j : Int)) = ((j + 1 : Nat) : Int) := by omega
            rw [this]
        · have hlt : ¬ itm p (j + 1) < j + 1 := fun z => hlt (decide_eq_true (by omega))
          refine ⟨e6.trans e7, _, e7 _ _ h6, ?_⟩
          rw [htk, List.filter_append, show ([(j + 1, itm p (j + 1))].filter fun xy => decide (xy.2 < xy.1)) = [] by simp; omega, List.append_nil]
          exact h7.ex e7
      · obtain ⟨e6, ws6, h6, h7⟩ := hq
        rw [nvs_len, hP.len, List.take_of_length_le (l := numd n p) (by rw [numd_len]; exact Nat.le_refl _)] at h7
        refine ⟨h1, e6, ws6, h6, ?_⟩
        rw [List.take_add_one, hpi, List.flatMap_append]
        show Prh H' ws6 (_ ++ [p].flatMap (less n))
        rw [List.flatMap_cons, List.flatMap_nil, List.append_nil]
        exact h7
    · obtain ⟨h1, h2, ws, h3, h4⟩ := hp
      rw [List.take_of_length_le (by rw [hps.1]; exact Nat.le_refl _)] at h4
      have hu0 : us[0]? = some (us[0]'(by rw [hps.1]; exact hp0)) := List.getElem?_eq_getElem _
      obtain ⟨q0, p0, eq0, hp0', hq0, hP0⟩ := hps.2 0 _ hu0
      rw [eq0] at hu0
      have hin : inN n (ps.flatMap (less n)) := fun xy hxy => by
        obtain ⟨p, hp, hxy⟩ := List.mem_flatMap.mp hxy
        obtain ⟨i, hi⟩ := List.getElem?_of_mem hp
        obtain ⟨q, p2, _, g, _, hP⟩ := hps.2 i _ (List.getElem?_eq_getElem (by rw [hps.1]; exact (List.getElem?_eq_some_iff.mp hi).1))
        rw [g] at hi
        obtain rfl := Option.some.inj hi
        exact less_in hP xy hxy
      refine ⟨_, rfl, a, _, 0, _, rfl, rfl, ex_l h2 ha, atI_nat (j := 0) hu0, _, n, rfl, .inr ⟨_, ex_t h2 hq0, by rw [nvs_len, hP0.len]⟩, _, rfl, ?_⟩
      exact ⟨n, D, ws, ps.flatMap (less n), rfl, hn, .inl (sq_of h3), h4.to, hin, fun r H5 e5 n5 h5 => qq r H5 (h2.trans e5) (fresh_back h2 n5) h5⟩
end
end Eyes

set_option Elab.async false
set_option linter.all false
set_option maxRecDepth 100000
set_option maxHeartbeats 4000000
namespace Eyes
open PySem PySem.Spec PyProof.Rows L2 Evl TL
def numD (d : PyData) (a b : Int) : Bool := match d with
  | .int i => decide (a ≤ i) && decide (i ≤ b)
  | _ => false
def spNumber (K : PySem.W.Frag) : Sp := fun vs H Q _ => ∃ (v : V) (d : PyData) (a b : Int), vs = [v, .int a, .int b] ∧ Rep H v d ∧ Q (.bl (numD d a b)) H
section
variable {P : Program} {w : World} {K : PySem.W.Frag} {mg : Str → Option Value} {base : Heap} {AA : Adr}
theorem ok_is_number (T : Txt K mg AA) : Pr P w K mg base "is_number" s_is_number p_is_number 1 (spNumber K) := by
  refine pr_mk T.f_is_number sc_is_number (fun vs H Q E h => ?_) (fun f cdv A outer s H vs Q E hr h => ?_)
  · obtain ⟨v, d, a, b, rfl, _⟩ := h
    rfl
  · obtain ⟨v, d, a, b, rfl, hv, q⟩ := h
    refine ⟨_, (pss_cons (ps_if (PW.pt (pw_or (pt_val (pe_callB (call_isiK (K := K) rfl) (by rfl) T.n_isinstance PyProof.Rows.boot_isinstance (pa_cons (pv 0) (pa_cons (pe_bltn (v := .ty "bool") (by rfl) T.n_bool (by decide +kernel) rfl) pa_nil)))) (pw_or1 (pt_not (pt_val (pe_callB (call_isiK (K := K) rfl) (by rfl) T.n_isinstance PyProof.Rows.boot_isinstance (pa_cons (pv 0) (pa_cons (pe_bltn (v := .ty "int") (by rfl) T.n_int (by decide +kernel) rfl) pa_nil))))))))
      (pss_one (ps_ret pe_bl))
      pss_nil)
      (pss_one (ps_ret (pe_chain op_le op_le (pv 1) (pv 0) (pv 2))))), ?_⟩
    have no : ∀ kb ki : Bool, PySem.W.kitOne K (.type (tyD d)) (.type "bool") = some kb → PySem.W.kitOne K (.type (tyD d)) (.type "int") = some ki → (kb = true ∨ ki = false) → numD d a b = false → (tSeq
    (tIfS
      (tOr (tB (tCB (rIsi K) (tCons (tVar 0) (tCons (tC (V.ty "bool")) tNil))))
        (tNot (tB (tCB (rIsi K) (tCons (tVar 0) (tCons (tC (V.ty "int")) tNil))))))
      (tRet (tC (V.bl false))) tNext)
    (tRet
      (tChain (rI0 fun i j => V.bl (decide (i ≤ j))) (rI0 fun i j => V.bl (decide (i ≤ j))) (tVar 1) (tVar 0) (tVar 2)))
    { nx := fun x H' => Q V.non H', rt := Q } (L2.start n_is_number [v, V.int a, V.int b]) H) := fun kb ki h1 h2 h3 h4 => by
      rw [h4] at q
      cases kb with
      | true => exact ⟨_, rfl, v, .ty "bool", _, _, true, rfl, .ty _, hv.ty, h1, _, rfl, iteT (iteT q)⟩
      | false =>
        cases ki with
        | true => rcases h3 with h3 | h3 <;> cases h3
        | false => exact ⟨_, rfl, v, .ty "bool", _, _, false, rfl, .ty _, hv.ty, h1, _, rfl, iteF ⟨_, rfl, v, .ty "int", _, _, false, rfl, .ty _, hv.ty, h2, _, rfl, iteT q⟩⟩
    cases d with
    | int i =>
      cases hv
      refine ⟨_, rfl, .int i, .ty "bool", _, _, false, rfl, .ty _, (Rep.int (H := H) i).ty, kit_ty (a := "int") (by decide +kernel), _, rfl, iteF ⟨_, rfl, .int i, .ty "int", _, _, true, rfl, .ty _, (Rep.int (H := H) i).ty, kit_ty (a := "int") (by decide +kernel), _, rfl, iteF ?_⟩⟩
      have q : Q (V.bl (decide (a ≤ i) && decide (i ≤ b))) H := q
      refine ⟨_, rfl, _, rfl, a, i, rfl, rfl, _, rfl, ite2 (fun h1 => ?_) (fun h1 => ?_)⟩
      · rw [h1] at q
        exact ⟨_, rfl, i, b, rfl, rfl, q⟩
      · rw [show decide (a ≤ i) = false by cases e : decide (a ≤ i) with | true => exact absurd e h1 | false => rfl] at q
        exact q
    | none => exact no false false (kit_ty (a := "NoneType") (by decide +kernel)) (kit_ty (a := "NoneType") (by decide +kernel)) (.inr rfl) rfl
    | bool z => exact no true true (kit_ty (a := "bool") (by decide +kernel)) (kit_ty (a := "bool") (by decide +kernel)) (.inl rfl) rfl
    | str z => exact no false false (kit_ty (a := "str") (by decide +kernel)) (kit_ty (a := "str") (by decide +kernel)) (.inr rfl) rfl
    | list z => exact no false false (kit_ty (a := "list") (by decide +kernel)) (kit_ty (a := "list") (by decide +kernel)) (.inr rfl) rfl
    | tuple z => exact no false false (kit_ty (a := "tuple") (by decide +kernel)) (kit_ty (a := "tuple") (by decide +kernel)) (.inr rfl) rfl
    | dict z => exact no false false (kit_ty (a := "dict") (by decide +kernel)) (kit_ty (a := "dict") (by decide +kernel)) (.inr rfl) rfl
def itemD (ds : List PyData) (k : Nat) : Bool := match ds[k]? with
  | some d => numD d 1 ((k : Int) + 1) && (match d with
    | .int i => (match ds[(i - 1).toNat]? with
      | some e => PyData.eqv e (.int i)
      | none => false)
    | _ => false)
  | none => false
theorem itemD_no {ds : List PyData} {k : Nat} {d : PyData} (h : ds[k]? = some d) (h2 : numD d 1 ((k : Int) + 1) = false) : itemD ds k = false := by
  unfold itemD
  rw [h]
  show (numD d 1 ((k : Int) + 1) && _) = false
  rw [h2, Bool.false_and]
theorem itemD_int {ds : List PyData} {k : Nat} {i : Int} {e : PyData} (h : ds[k]? = some (.int i)) (h2 : numD (.int i) 1 ((k : Int) + 1) = true) (h3 : ds[(i - 1).toNat]? = some e) : itemD ds k = PyData.eqv e (.int i) := by
  unfold itemD
  rw [h]
  show (numD (.int i) 1 ((k : Int) + 1) && (match ds[(i - 1).toNat]? with
      | some e => PyData.eqv e (.int i)
      | none => false)) = _
  rw [h2, Bool.true_and, h3]
def spItem (K : PySem.W.Frag) : Sp := fun vs H Q _ => ∃ (a : Addr) (xs : List V) (ds : List PyData) (k : Nat), vs = [.ref a, .int k] ∧ SqT K H a xs ∧ Reps H xs ds ∧ (∀ d ∈ ds, SeqAt.shaped d = true) ∧ k < xs.length ∧ Q (.bl (itemD ds k)) H
theorem ok_is_item (T : Txt K mg AA) : Pr P w K mg base "is_item" s_is_item p_is_item 2 (spItem K) := by
  refine pr_mk T.f_is_item sc_is_item (fun vs H Q E h => ?_) (fun f cdv A outer s H vs Q E hr h => ?_)
  · obtain ⟨a, xs, ds, k, rfl, _⟩ := h
    rfl
  · obtain ⟨a, xs, ds, k, rfl, ha, hR, hsh, hk, q⟩ := h
    refine ⟨_, (pss_one (ps_ret (pe_and (pcall (ok_is_number T) hr (pa_cons (pe_ix (ix_tupK (K := K) rfl) (pv 0) (pv 1) (fun _ _ => rfl)) (pa_cons pe_int (pa_cons (pe_op op_add (pv 1) pe_int) pa_nil)))) (pe_one (pe_cmpR (op_eqD hr.units) (pe_ix (ix_tupK (K := K) rfl) (pv 0) (pe_op op_sub (pe_ix (ix_tupK (K := K) rfl) (pv 0) (pv 1) (fun _ _ => rfl)) pe_int) (fun _ _ => rfl)) (pe_ix (ix_tupK (K := K) rfl) (pv 0) (pv 1) (fun _ _ => rfl)) (nomark _)))))), ?_⟩
    obtain ⟨d, hd, hv⟩ := hR.get (List.getElem?_eq_getElem hk)
    have hx : xs[k]? = some xs[k] := List.getElem?_eq_getElem hk
    generalize xs[k] = v at hv hx
    refine ⟨_, rfl, _, rfl, a, _, _, v, rfl, rfl, ha, atI_nat hx, _, rfl, k, 1, rfl, rfl, v, d, 1, (k : Int) + 1, rfl, hv, ?_⟩
    cases hn : numD d 1 ((k : Int) + 1) with
    | false =>
      rw [itemD_no hd hn] at q
      exact ⟨_, rfl, iteF q⟩
    | true =>
      cases d with
      | int i =>
        cases hv
        have hi : 1 ≤ i ∧ i ≤ (k : Int) + 1 := by
          have h : (decide (1 ≤ i) && decide (i ≤ (k : Int) + 1)) = true := hn
          rw [Bool.and_eq_true] at h
          exact ⟨of_decide_eq_true h.1, of_decide_eq_true h.2⟩
        have hj : (i - 1).toNat < xs.length := by omega
        obtain ⟨e, he, hve⟩ := hR.get (List.getElem?_eq_getElem hj)
        have hxe : xs[(i - 1).toNat]? = some xs[(i - 1).toNat] := List.getElem?_eq_getElem hj
        generalize xs[(i - 1).toNat] = v2 at hve hxe
        rw [itemD_int hd hn he] at q
        refine ⟨_, rfl, iteT ?_⟩
        refine ⟨_, rfl, _, rfl, _, rfl, a, _, _, .int i, rfl, rfl, ha, atI_nat hx, i, 1, rfl, rfl, a, _, _, v2, rfl, rfl, ha, at_of' (by omega) hxe, _, rfl, _, rfl, a, _, _, .int i, rfl, rfl, ha, atI_nat hx, ?_⟩
        exact ⟨e, .int i, hve.dp, .int i, hsh e (List.mem_of_getElem? he), rfl, q⟩
      | _ => cases hn
def partD (d : PyData) : Bool := match d with
  | .tuple ds => decide (ds ≠ []) && (List.range ds.length).all fun k => itemD ds k
  | _ => false
def spIsPart (K : PySem.W.Frag) : Sp := fun vs H Q _ => ∃ (v : V) (d : PyData), vs = [v] ∧ Rep H v d ∧ (∀ ds, d = .tuple ds → ds.length ≤ 4096 ∧ ∀ e ∈ ds, SeqAt.shaped e = true) ∧ ∀ H', Ex H H' → Q (.bl (partD d)) H'
theorem ok_is_parting (T : Txt K mg AA) : Pr P w K mg base "is_parting" s_is_parting p_is_parting 3 (spIsPart K) := by
  refine pr_mk T.f_is_parting sc_is_parting (fun vs H Q E h => ?_) (fun f cdv A outer s H vs Q E hr h => ?_)
  · obtain ⟨v, d, rfl, _⟩ := h
    rfl
  · obtain ⟨v, d, rfl, hv, hd, q⟩ := h
    refine ⟨_, (pss_cons (ps_if (PW.pt (pw_or (pt_not (pt_val (pe_callB (call_isiK (K := K) rfl) (by rfl) T.n_isinstance PyProof.Rows.boot_isinstance (pa_cons (pv 0) (pa_cons (pe_bltn (v := .ty "tuple") (by rfl) T.n_tuple (by decide +kernel) rfl) pa_nil))))) (pw_or1 (pt_cmpR op_eq (pe_callB (call_len_seqK (K := K) rfl) (by rfl) T.n_len PySem.boot_len (pa_cons (pv 0) pa_nil)) pe_int (nomark _)))))
      (pss_one (ps_ret pe_bl))
      pss_nil)
      (pss_one (ps_ret (pe_callB (cr_all rfl) (by rfl) T.n_all PyProof.Rows.boot_all (pa_cons (pe_lc (own := [("at", 1)]) (g := gName 1) (tt := tYes) rfl sc_is_parting.nd (pi_range1 (by rfl) T.n_range (pa_cons (pe_callB (call_len_seqK (K := K) rfl) (by rfl) T.n_len PySem.boot_len (pa_cons (pv 0) pa_nil)) pa_nil)) (blkOk_by (own := [("at", 1)]) (N := n_is_parting) (sc := defScope s_is_parting) (by decide +kernel)) (fun _ _ _ _ _ => (pg_name (i := 1) sc_is_parting.nd rfl (.inl rfl))) (fun _ _ _ _ _ => pts_nil) (fun _ _ _ _ _ => (pcall (ok_is_item T) hr (pa_cons (pv 0) (pa_cons (pv 1) pa_nil))))) pa_nil))))), ?_⟩
    have no : PySem.W.kitOne K (.type (tyD d)) (.type "tuple") = some false → partD d = false → (tSeq
    (tIfS
      (tOr (tNot (tB (tCB (rIsi K) (tCons (tVar 0) (tCons (tC (V.ty "tuple")) tNil)))))
        (tTest
          (tOp rEq
            (tCB (fun xs H Q => ∃ p ys, xs = [V.ref p] ∧ (SqL K H p ys ∨ SqT K H p ys) ∧ Q (V.int ↑ys.length) H)
              (tCons (tVar 0) tNil))
            (tC (V.int 0)))))
      (tRet (tC (V.bl false))) tNext)
    (tRet
      (tCB
        (rAll K)
        (tCons
          (tLc
            (iRng1
              (tCons
                (tCB (fun xs H Q => ∃ p ys, xs = [V.ref p] ∧ (SqL K H p ys ∨ SqT K H p ys) ∧ Q (V.int ↑ys.length) H)
                  (tCons (tVar 0) tNil))
                tNil))
            (gName 1) tYes (tCall (spItem K) [] (fun x x_1 x_2 => False) (tCons (tVar 0) (tCons (tVar 1) tNil)))
            (List.map (fun x => x.snd) [(Str.ofString "at", 1)]))
          tNil)))
    { nx := fun x H' => Q V.non H', rt := Q } (L2.start n_is_parting [v]) H) := fun h1 h2 => by
      have q := q H (Ex.refl _)
      rw [h2] at q
      exact ⟨_, rfl, v, .ty "tuple", _, _, false, rfl, .ty _, hv.ty, h1, _, rfl, iteT (iteT q)⟩
    cases d with
    | tuple ds =>
      obtain ⟨hl, hsh⟩ := hd ds rfl
      cases hv with
      | @tup a xs _ hx hR =>
      have hlen := hR.length
      refine ⟨_, rfl, .ref a, .ty "tuple", _, _, true, rfl, .ty _, (Rep.tup hx hR).ty, kit_ty (a := "tuple") (by decide +kernel), _, rfl, iteF ?_⟩
      refine ⟨_, rfl, a, xs, rfl, .inr (st_of hx), rfl, _, rfl, ite2 (fun h0 => ?_) (fun h0 => ?_)⟩
      · have q := q H (Ex.refl _)
        have h1 : V.int (xs.length : Int) = V.int 0 := of_decide_eq_true h0
        injection h1 with h1
        have h2 : ds = [] := List.length_eq_zero_iff.mp (by omega)
        rw [h2] at q
        exact q
      · have h2 : ds ≠ [] := fun z => h0 (by
          rw [z] at hlen
          rw [hlen]
          rfl)
        refine ⟨_, rfl, a, xs, rfl, .inr (st_of hx), _, rfl, by omega, by omega, ?_⟩
        rw [show ((xs.length : Nat) : Int).toNat = xs.length by omega]
        refine fun D hD => lc_it walk_range (fun i H' => H D = none ∧ Ex H H' ∧ H' D = some (.lst (((List.range i).map fun k => itemD ds k).map V.bl))) ⟨hD, Ex.new hD, upd_same⟩ (fun _ _ _ _ => trivial) (fun i v H3 H4 hi hp hy => ?_) (fun H' hp => ?_)
        · obtain ⟨h1, h4, h3⟩ := hp
          obtain ⟨rfl, rfl⟩ := hy
          refine ⟨rfl, _, rfl, _, rfl, a, xs, ds, i, ?_, st_of (h4 _ _ hx), hR.mono h4, hsh, hi, _, h3, ?_, h1, h4.mut h1, ?_⟩
          · show [V.ref a, V.int (0 + (i : Int))] ++ [] = _
            rw [Int.zero_add]
            rfl
          · rw [List.length_map, List.length_map, List.length_range]
            have : 4097 < sizeLine := by decide
            omega
          · rw [upd_same, List.range_succ, List.map_append, List.map_append]
            rfl
        · obtain ⟨h1, h4, h3⟩ := hp
          refine ⟨D, _, rfl, sq_of h3, ?_⟩
          rw [all_take]
          have q := q _ h4
          rw [show partD (.tuple ds) = (List.range xs.length).all fun k => itemD ds k by
            show (decide (ds ≠ []) && _) = _
            rw [decide_eq_true h2, Bool.true_and, hlen]] at q
          exact q
    | none => exact no (kit_ty (a := "NoneType") (by decide +kernel)) rfl
    | bool z => exact no (kit_ty (a := "bool") (by decide +kernel)) rfl
    | int z => exact no (kit_ty (a := "int") (by decide +kernel)) rfl
    | str z => exact no (kit_ty (a := "str") (by decide +kernel)) rfl
    | list z => exact no (kit_ty (a := "list") (by decide +kernel)) rfl
    | dict z => exact no (kit_ty (a := "dict") (by decide +kernel)) rfl
end
end Eyes

set_option Elab.async false
set_option linter.all false
set_option maxRecDepth 100000
set_option maxHeartbeats 4000000
/-! d.setdefault(key, v), the key a tuple; {} of either kind. -/
namespace Eyes
open PySem PySem.Spec PyProof.Rows L2
section
variable {X : Cx} {pins : List (Addr × Obj)} {σ : L2.St} {H : Hp} {s : Shared} {a b : Addr} {r : Value} {d : V} {k : List L2.Key} {A : Around} {E : Value → Shared → Prop}
theorem d_setdT {kvs : List (List L2.Key × V)} {Q : Value → Shared → Prop} (hu : A.units + 1 < cLine) (I : Inv X pins σ H s) (e : H a = some (.dT kvs)) (eb : H b = some (.tup (k.map kV))) (rd : RelV d r) (hl : kvs.length < sizeLine)
    (h1 : ∀ v, valV kvs k = some v → ∀ (w' : Value) (s' : Shared), Inv X pins σ H s' → RelV v w' → Q w' s') (h2 : valV kvs k = none → ∀ (w' : Value) (s' : Shared), Inv X pins σ (upd H a (.dT (putK kvs k d))) s' → RelV d w' → Q w' s') :
    wpAny (model X.prog X.w) A (call (.builtin "dict.setdefault") [.ref a, .ref b, r]) Q E s := by
  obtain ⟨z, hd, xs, rel, dd⟩ := dt_of I.hok e
  have hz : xs.length ≤ sizeLine := by rw [← Paired.length rel]; exact z
  refine call_setdefault_heap (knd := tupleKind (mixKind X.prog X.w)) (tupleKind_room_in1 hu) (key_of I.hok eb) hd dd (fun p hp => ?_) (fun hn h' dd' hs => ?_) hz
  · have q := rel.val k
    rw [hp] at q
    cases q0 : valV kvs k with
    | none =>
      rw [q0] at q
      exact (show False from q).elim
    | some v0 =>
      rw [q0] at q
      exact h1 v0 q0 _ _ (I.kept (t' := _) fun _ _ z => z) q
  · have q := rel.val k
    rw [hn] at q
    cases q0 : valV kvs k with
    | some v0 =>
      rw [q0] at q
      exact (show False from q).elim
    | none =>
      have hl2 : (putK kvs k d).length ≤ sizeLine := by
        have := length_putK kvs k d
        omega
      obtain ⟨q, es, ep, hq, g2, g3, g4, _, g5⟩ := dd'
      refine h2 q0 _ _ (d_write (t' := _) I (by rw [e]; exact True.intro) hs ⟨q, hq⟩ ⟨hl2, hd, _, (rel.put k eb rd).keeps fun c ys ec => ?_, q, es, ep, hq, g2, g3, g4, g5⟩) rd
      rw [upd_ne (ne_of ec e (fun z => nomatch z))]
      exact ec
end
def SetdR (H : Hp) (a : Addr) (y z : V) (Q : VK) : Prop :=
  (∃ (kvs : List (L2.Key × V)) (k : L2.Key), H a = some (.dK kvs) ∧ y = kV k ∧ kvs.length < sizeLine ∧ (∀ v, valV kvs k = some v → Q v H) ∧ (valV kvs k = none → Q z (upd H a (.dK (putK kvs k z))))) ∨
  ∃ (kvs : List (List L2.Key × V)) (k : List L2.Key) (b : Addr), H a = some (.dT kvs) ∧ y = .ref b ∧ H b = some (.tup (k.map kV)) ∧ kvs.length < sizeLine ∧ (∀ v, valV kvs k = some v → Q v H) ∧ (valV kvs k = none → Q z (upd H a (.dT (putK kvs k z))))
def tDSetdA (td ty tx : TE) : TE := fun σ H Q => td σ H fun x H1 => ∃ a, x = .ref a ∧ IsD H1 a ∧ ty σ H1 fun y H2 => tx σ H2 fun z H3 => SetdR H3 a y z Q
section
variable {X : Cx} {o e f : Expr} {td ty tx : TE} {apos cpos : Pos}
theorem pe_dsetdA (hu : X.A.units + 64 < cLine) (ho : PE X o td) (he : PE X e ty) (hf : PE X f tx) (m : M2 X o "setdefault" apos e f cpos) : PE X (.Call (.Attribute o "setdefault" apos) [e, f] [] cpos) (tDSetdA td ty tx) := by
  refine ⟨fun pins s σ H Q I h => ?_⟩
  refine wpAny_Call_method m.base m.few m.line PySem.F.plainAttrs_dict PySem.F.slot_dict_setdefault PySem.F.type_dict_setdefault (thn (ho.run pins s σ H _ I h) fun u s1 ⟨x, H1, I1, rx, a, ex, d, q1⟩ => ?_)
  subst ex
  obtain rfl : u = Value.ref a := rx
  obtain ⟨t1, t2, _⟩ := isD_at I1 d
  refine ⟨t1, t2, ?_⟩
  rw [m.trees]
  refine Calls.callWith_builtin rfl (Calls.evalArgs_plain (Calls.spliced_cons (thn (he.run pins s1 σ H1 _ I1 q1) fun iv s2 ⟨y, H2, I2, ry, q2⟩ =>
    Calls.spliced_cons (thn (hf.run pins s2 σ H2 _ I2 q2) fun fv s3 ⟨z, H3, I3, rz, q3⟩ => Calls.spliced_nil ?_))))
  rcases q3 with ⟨kvs, k, ea, ey, hl, q3, q4⟩ | ⟨kvs, k, b, ea, ey, eb, hl, q3, q4⟩
  · subst ey
    exact d_setd I3 ea ry rz hl (fun v hv w' s4 I4 rw' => ⟨v, _, I4, rw', q3 v hv⟩) fun hn w' s4 I4 rw' => ⟨z, _, I4, rw', q4 hn⟩
  · subst ey
    cases (show iv = Value.ref b from ry)
    exact d_setdT (by omega) I3 ea eb rz hl (fun v hv w' s4 I4 rw' => ⟨v, _, I4, rw', q3 v hv⟩) fun hn w' s4 I4 rw' => ⟨z, _, I4, rw', q4 hn⟩
def tDNewA : TE := fun _ H Q => (∀ p, H p = none → Q (.ref p) (upd H p (.dK []))) ∨ ∀ p, H p = none → Q (.ref p) (upd H p (.dT []))
theorem pe_dnewA {pos : Pos} : PE X (.Dict [] [] pos) tDNewA := ⟨fun pins s σ H Q I h => by
  rcases h with h | h
  · exact pe_dnewK.run pins s σ H Q I h
  · exact pe_dnewT.run pins s σ H Q I h⟩
end
end Eyes

set_option Elab.async false
set_option linter.all false
set_option maxRecDepth 100000
/-! The parting by keys: each case gets the first case with an equal key. -/
namespace Eyes
open PySem PySem.Spec PyProof.Rows L2
section
variable {α β : Type} [DecidableEq α] [DecidableEq β]
def firsts (ks : List α) : List Nat := ks.map fun k => ks.idxOf k + 1
theorem firsts_len {ks : List α} : (firsts ks).length = ks.length := List.length_map ..
theorem firsts_itm {ks : List α} {x : Nat} {k : α} (h1 : 1 ≤ x) (h : ks[x - 1]? = some k) : itm (firsts ks) x = ks.idxOf k + 1 := by
  unfold itm firsts
  rw [List.getD_eq_getElem?_getD, List.getElem?_map, h]
  rfl
theorem idx_le {ks : List α} {i : Nat} {k : α} (h : ks[i]? = some k) : ks.idxOf k ≤ i := by
  induction ks generalizing i with
  | nil => cases h
  | cons a l ih =>
    rw [List.idxOf_cons]
    by_cases g : a = k
    · rw [show (a == k) = true by simpa using g]
      exact Nat.zero_le _
    · rw [show (a == k) = false by simpa using g]
      cases i with
      | zero => exact absurd (Option.some.inj h) g
      | succ i =>
        have := ih (i := i) h
        simp only [cond_false]
        omega
theorem idx_get {ks : List α} {k : α} (h : k ∈ ks) : ks[ks.idxOf k]? = some k := by
  induction ks with
  | nil => cases h
  | cons a l ih =>
    rw [List.idxOf_cons]
    by_cases g : a = k
    · rw [show (a == k) = true by simpa using g]
      exact congrArg some g
    · rw [show (a == k) = false by simpa using g]
      simp only [cond_false]
      rw [List.getElem?_cons_succ]
      exact ih ((List.mem_cons.mp h).resolve_left fun e => g e.symm)
theorem isP_firsts (ks : List α) : IsP ks.length (firsts ks) := by
  refine ⟨firsts_len, fun x h1 h2 => ?_, fun x h1 h2 => ?_⟩
  · have h : ks[x - 1]? = some (ks[x - 1]'(by omega)) := List.getElem?_eq_getElem _
    rw [firsts_itm h1 h]
    have := idx_le h
    omega
  · have h : ks[x - 1]? = some (ks[x - 1]'(by omega)) := List.getElem?_eq_getElem _
    rw [firsts_itm h1 h]
    refine firsts_itm (by omega) ?_
    rw [Nat.add_sub_cancel]
    exact idx_get (List.mem_of_getElem? h)
theorem firsts_ali {ks : List α} {x y : Nat} {j k : α} (h1 : 1 ≤ x) (h2 : 1 ≤ y) (hx : ks[x - 1]? = some j) (hy : ks[y - 1]? = some k) : ali (firsts ks) x y ↔ j = k := by
  unfold ali
  rw [firsts_itm h1 hx, firsts_itm h2 hy]
  refine ⟨fun e => ?_, fun e => by rw [e]⟩
  have a := idx_get (List.mem_of_getElem? hx)
  have b := idx_get (List.mem_of_getElem? hy)
  rw [show ks.idxOf j = ks.idxOf k by omega, b] at a
  exact (Option.some.inj a).symm
theorem firsts_same {ks : List α} {ls : List β} (hl : ks.length = ls.length) (h : ∀ (i j : Nat) a b c d, ks[i]? = some a → ks[j]? = some b → ls[i]? = some c → ls[j]? = some d → (a = b ↔ c = d)) : firsts ks = firsts ls := by
  have hp := isP_firsts ks
  have hq := isP_firsts ls
  rw [← hl] at hq
  refine isP_ext hp hq fun x y h1 h2 h3 h4 => ?_
  have e1 : ks[x - 1]? = some (ks[x - 1]'(by omega)) := List.getElem?_eq_getElem _
  have e2 : ks[y - 1]? = some (ks[y - 1]'(by omega)) := List.getElem?_eq_getElem _
  have e3 : ls[x - 1]? = some (ls[x - 1]'(by omega)) := List.getElem?_eq_getElem _
  have e4 : ls[y - 1]? = some (ls[y - 1]'(by omega)) := List.getElem?_eq_getElem _
  rw [firsts_ali h1 h3 e1 e2, firsts_ali h1 h3 e3 e4]
  exact h _ _ _ _ _ _ e1 e2 e3 e4
end
def keysN (n : Nat) (ps : List (List Nat)) : List (List Nat) := (List.range n).map fun k => ps.map fun p => itm p (k + 1)
def metN (n : Nat) (ps : List (List Nat)) : List Nat := firsts (keysN n ps)
theorem keysN_len {n : Nat} {ps : List (List Nat)} : (keysN n ps).length = n := by
  unfold keysN
  rw [List.length_map, List.length_range]
theorem keysN_get {n : Nat} {ps : List (List Nat)} {x : Nat} (h1 : 1 ≤ x) (h2 : x ≤ n) : (keysN n ps)[x - 1]? = some (ps.map fun p => itm p x) := by
  unfold keysN
  rw [List.getElem?_map, List.getElem?_range (by omega)]
  show some (ps.map fun p => itm p (x - 1 + 1)) = _
  rw [show x - 1 + 1 = x by omega]
theorem metN_isP (n : Nat) (ps : List (List Nat)) : IsP n (metN n ps) := by
  have h := isP_firsts (keysN n ps)
  rw [keysN_len] at h
  exact h
theorem metN_ali {n : Nat} {ps : List (List Nat)} {x y : Nat} (h1 : 1 ≤ x) (h2 : x ≤ n) (h3 : 1 ≤ y) (h4 : y ≤ n) : ali (metN n ps) x y ↔ ∀ p ∈ ps, ali p x y := by
  unfold metN
  rw [firsts_ali h1 h3 (keysN_get h1 h2) (keysN_get h3 h4)]
  unfold ali
  exact List.map_inj_left
theorem metN_cons {n : Nat} {p : List Nat} {ps : List (List Nat)} : metN n (p :: ps) = metN n [p, metN n ps] := by
  refine isP_ext (metN_isP ..) (metN_isP ..) fun x y h1 h2 h3 h4 => ?_
  rw [metN_ali h1 h2 h3 h4, metN_ali h1 h2 h3 h4]
  refine ⟨fun h q hq => ?_, fun h q hq => ?_⟩
  · rcases List.mem_cons.mp hq with rfl | hq
    · exact h _ List.mem_cons_self
    · rcases List.mem_cons.mp hq with rfl | hq
      · exact (metN_ali h1 h2 h3 h4).mpr fun z hz => h z (List.mem_cons_of_mem _ hz)
      · cases hq
  · rcases List.mem_cons.mp hq with rfl | hq
    · exact h _ List.mem_cons_self
    · exact (metN_ali h1 h2 h3 h4).mp (h _ (List.mem_cons_of_mem _ List.mem_cons_self)) q hq
theorem metN_one {n : Nat} {p : List Nat} (h : IsP n p) : metN n [p] = p := by
  refine isP_ext (metN_isP ..) h fun x y h1 h2 h3 h4 => ?_
  rw [metN_ali h1 h2 h3 h4]
  refine ⟨fun g => g p List.mem_cons_self, fun g q hq => ?_⟩
  rcases List.mem_cons.mp hq with rfl | hq
  · exact g
  · cases hq
theorem metN_snoc {n : Nat} {q : List Nat} {ps : List (List Nat)} : metN n (ps ++ [q]) = metN n [metN n ps, q] := by
  refine isP_ext (metN_isP ..) (metN_isP ..) fun x y h1 h2 h3 h4 => ?_
  rw [metN_ali h1 h2 h3 h4, metN_ali h1 h2 h3 h4]
  constructor
  · intro h z hz
    rcases List.mem_cons.mp hz with rfl | hz
    · exact (metN_ali h1 h2 h3 h4).mpr fun z hz => h z (List.mem_append_left _ hz)
    · exact h z (List.mem_append_right _ hz)
  · intro h z hz
    rcases List.mem_append.mp hz with hz | hz
    · exact (metN_ali h1 h2 h3 h4).mp (h _ List.mem_cons_self) z hz
    · exact h z (List.mem_cons_of_mem _ hz)
theorem metN_fold {n : Nat} {p : List Nat} (h : IsP n p) : ∀ l : List (List Nat), metN n (p :: l) = l.foldl (fun f q => metN n [f, q]) p := by
  have key : ∀ (l k : List (List Nat)), metN n (k ++ l) = l.foldl (fun f q => metN n [f, q]) (metN n k) := fun l => by
    induction l with
    | nil => intro k; rw [List.append_nil]; rfl
    | cons q l ih =>
      intro k
      have := ih (k ++ [q])
      rw [List.append_assoc, metN_snoc] at this
      exact this
  intro l
  have := key l [p]
  rw [metN_one h] at this
  exact this
end Eyes

set_option Elab.async false
set_option linter.all false
set_option maxRecDepth 100000
set_option maxHeartbeats 4000000
namespace Eyes
open PySem PySem.Spec PyProof.Rows L2 Evl TL
/-! ### by keys -/
section
variable {κ : Type} [DecidableEq κ]
def fstOf (ks : List κ) (k : κ) : Nat := ks.idxOf k + 1
structure Fsts (ks : List κ) (i : Nat) (kvs : List (κ × V)) : Prop where
  len : kvs.length ≤ i
  val : ∀ k, valV kvs k = if k ∈ ks.take i then some (.int ((fstOf ks k : Nat) : Int)) else none
theorem Fsts.zero (ks : List κ) : Fsts ks 0 ([] : List (κ × V)) := ⟨Nat.le_refl _, fun k => by rw [List.take_zero, if_neg (fun h => by cases h)]; rfl⟩
theorem mem_take_succ {ks : List κ} {i : Nat} {k j : κ} (h : ks[i]? = some k) : j ∈ ks.take (i + 1) ↔ j ∈ ks.take i ∨ j = k := by
  rw [List.take_add_one, h, List.mem_append]
  exact or_congr Iff.rfl List.mem_singleton
theorem Fsts.has {ks : List κ} {i : Nat} {kvs : List (κ × V)} {k : κ} {v : V} (F : Fsts ks i kvs) (h : ks[i]? = some k) (hv : valV kvs k = some v) : v = .int ((fstOf ks k : Nat) : Int) ∧ Fsts ks (i + 1) kvs := by
  rw [F.val k] at hv
  by_cases g : k ∈ ks.take i
  · rw [if_pos g] at hv
    refine ⟨(Option.some.inj hv).symm, Nat.le_succ_of_le F.len, fun j => ?_⟩
    rw [F.val j]
    by_cases e : j ∈ ks.take i
    · rw [if_pos e, if_pos ((mem_take_succ h).mpr (.inl e))]
    · rw [if_neg e, if_neg fun z => by
        rcases (mem_take_succ h).mp z with z | z
        · exact e z
        · rw [z] at e
          exact e g]
  · rw [if_neg g] at hv
    cases hv
theorem idx_new {ks : List κ} {i : Nat} {k : κ} (h : ks[i]? = some k) (g : k ∉ ks.take i) : ks.idxOf k = i := by
  have a := idx_le h
  have b := idx_get (List.mem_of_getElem? h)
  rcases Nat.lt_or_ge (ks.idxOf k) i with c | c
  · refine absurd ?_ g
    refine List.mem_of_getElem? (i := ks.idxOf k) ?_
    rw [List.getElem?_take_of_lt c]
    exact b
  · omega
theorem Fsts.new {ks : List κ} {i : Nat} {kvs : List (κ × V)} {k : κ} (F : Fsts ks i kvs) (h : ks[i]? = some k) (hv : valV kvs k = none) : fstOf ks k = i + 1 ∧ Fsts ks (i + 1) (putK kvs k (.int ((i + 1 : Nat) : Int))) := by
  rw [F.val k] at hv
  by_cases g : k ∈ ks.take i
  · rw [if_pos g] at hv
    cases hv
  · have hi : fstOf ks k = i + 1 := congrArg (· + 1) (idx_new h g)
    refine ⟨hi, ?_, fun j => ?_⟩
    · have := length_putK kvs k (.int ((i + 1 : Nat) : Int))
      have := F.len
      omega
    · rw [valV_put, F.val j]
      by_cases e : j = k
      · rw [if_pos e, if_pos ((mem_take_succ h).mpr (.inr e)), e, hi]
      · rw [if_neg e]
        by_cases c : j ∈ ks.take i
        · rw [if_pos c, if_pos ((mem_take_succ h).mpr (.inl c))]
        · rw [if_neg c, if_neg fun z => ((mem_take_succ h).mp z).elim c e]
theorem firsts_get {ks : List κ} {i : Nat} {k : κ} (h : ks[i]? = some k) : (firsts ks)[i]? = some (fstOf ks k) := by
  unfold firsts
  rw [List.getElem?_map, h]
  rfl
end
def spKeysT (K : PySem.W.Frag) : Sp := fun vs H Q _ => ∃ (a : Addr) (us : List V) (ks : List (List L2.Key)), vs = [.ref a] ∧ SqL K H a us ∧ us.length = ks.length ∧ ks.length ≤ 4096 ∧ (∀ (i : Nat) (u : V) (k : List L2.Key), us[i]? = some u → ks[i]? = some k → ∃ b, u = .ref b ∧ H b = some (.tup (k.map kV))) ∧ ∀ r H', Ex H H' → H r = none → H' r = some (.tup (nvs (firsts ks))) → Q (.ref r) H'
def spKeysI (K : PySem.W.Frag) : Sp := fun vs H Q _ => ∃ (a : Addr) (us : List V) (ks : List L2.Key), vs = [.ref a] ∧ SqL K H a us ∧ us.length = ks.length ∧ ks.length ≤ 4096 ∧ (∀ (i : Nat) (u : V) (k : L2.Key), us[i]? = some u → ks[i]? = some k → u = kV k) ∧ ∀ r H', Ex H H' → H r = none → H' r = some (.tup (nvs (firsts ks))) → Q (.ref r) H'
section
variable {P : Program} {w : World} {K : PySem.W.Frag} {mg : Str → Option Value} {base : Heap} {AA : Adr}
theorem ok_by_keys (T : Txt K mg AA) : Pr P w K mg base "by_keys" s_by_keys p_by_keys 1 (spKeysT K) := by
  refine pr_mk T.f_by_keys sc_by_keys (fun vs H Q E h => ?_) (fun f cdv A outer s H vs Q E hr h => ?_)
  · obtain ⟨a, us, ks, rfl, _⟩ := h
    rfl
  · obtain ⟨a, us, ks, rfl, ha, hl, hn, hk, q⟩ := h
    refine ⟨_, (pss_cons (ps_set (i := 1) sc_by_keys.nd rfl (.inl rfl) pe_dnewA)
      (pss_cons (ps_set (i := 2) sc_by_keys.nd rfl (.inl rfl) (pe_lst pa_nil))
      (pss_cons (ps_for PassesOwn.never rfl (pi_enumLSK (K := K) rfl (by rfl) T.n_enumerate (pa_cons (pv 0) pa_nil) (pk_cons pe_int pk_nil)) (pg_tup (by rfl) (pgs_cons (pg_name (i := 3) sc_by_keys.nd rfl (.inl rfl)) (pgs_cons (pg_name (i := 4) sc_by_keys.nd rfl (.inl rfl)) pgs_nil)))
      (pss_one (ps_expr (pe_bm PySem.F.plainAttrs_list PySem.F.slot_list_append PySem.F.type_list_append mt_append (pv 2) (pa_cons (pe_dsetdA hr.units (pv 1) (pv 4) (pv 3) ⟨by rfl, by rfl, by rfl, by rfl⟩) pa_nil)))))
      (pss_one (ps_ret (pe_callTy call_tuple_of (by rfl) T.n_tuple PyProof.Rows.boot_tuple (pa_cons (pv 2) pa_nil))))))), ?_⟩
    refine .inr fun D nD => ?_
    refine ⟨by show 0 ≤ sizeLine; decide, fun F nF => ?_⟩
    have hDF : D ≠ F := ne_of_none upd_same nF
    have nF0 : H F = none := fresh_back (Ex.new nD) nF
    refine ⟨_, rfl, a, 1, us, rfl, rfl, by omega, by omega, ex_l ((Ex.new nD).trans (Ex.new nF)) ha, ?_⟩
    refine for_it (walk_enumL (xs := us)) (fun i σ H' => ∃ (y3 y4 : Option V) (kvs : List (List L2.Key × V)), σ = [some (.ref a), some (.ref D), some (.ref F), y3, y4] ∧ Ex H H' ∧ H' D = some (.dT kvs) ∧ Fsts ks i kvs ∧ H' F = some (.lst (nvs ((firsts ks).take i)))) ⟨none, none, [], rfl, (Ex.new nD).trans (Ex.new nF), (upd_ne hDF).trans upd_same, Fsts.zero ks, upd_same⟩ (fun i σ H' _ hp => ?_) (fun i v σ H1 H2 hi hp hy => ?_) (fun σ H' hp => ?_)
    · obtain ⟨_, _, _, rfl, e, _⟩ := hp
      exact ex_l e ha
    · obtain ⟨y3, y4, kvs, rfl, e, hD, hF, hfd⟩ := hp
      obtain ⟨T1, u1, u2, rfl, hT, rfl, g1, g2⟩ := hy
      have hki : ks[i]? = some (ks[i]'(by omega)) := List.getElem?_eq_getElem _
      generalize ks[i]'(by omega) = k at hki
      obtain ⟨b, rfl, hb⟩ := hk i u2 k g2 hki
      have z1 : (1 : Int) + (i : Int) = ((i + 1 : Nat) : Int) := by omega
      obtain rfl : V.int ((i + 1 : Nat) : Int) = u1 := by
        rw [← z1]
        exact Option.some.inj g1
      have e2 : Ex H1 (upd H1 T1 (.tup [.int ((i + 1 : Nat) : Int), .ref b])) := Ex.new hT
      have htk : (firsts ks).take (i + 1) = (firsts ks).take i ++ [fstOf ks k] := by
        rw [List.take_add_one, firsts_get hki]
        rfl
      have hfl : (nvs ((firsts ks).take i)).length < sizeLine := by
        rw [nvs_len, List.length_take, firsts_len]
        have : 4097 < sizeLine := by decide
        omega
      refine ⟨T1, _, rfl, st_of upd_same, rfl, _, _, rfl, _, _, rfl, rfl, ?_⟩
      refine ⟨_, rfl, .inl ⟨rfl, _, sq_of (e2 _ _ hfd)⟩, _, rfl, D, rfl, .inr ⟨_, .inl (e2 _ _ hD)⟩, _, rfl, _, rfl, .inr ⟨kvs, k, b, e2 _ _ hD, rfl, e2 _ _ (e _ _ hb), ?_, fun v hv => ?_, fun hv => ?_⟩⟩
      · have := hF.len
        have : 4097 < sizeLine := by decide
        omega
      · obtain ⟨rfl, hF2⟩ := hF.has hki hv
        refine ⟨F, _, _, rfl, rfl, e2 _ _ hfd, hfl, _, _, kvs, rfl, (e.trans e2).mut nF0, (upd_ne hDF).trans (e2 _ _ hD), hF2, ?_⟩
        rw [upd_same, htk]
        unfold nvs
        rw [List.map_append]
        rfl
      · obtain ⟨hidx, hF2⟩ := hF.new hki hv
        refine ⟨F, _, _, rfl, rfl, (upd_ne hDF.symm).trans (e2 _ _ hfd), hfl, _, _, _, rfl, ((e.trans e2).mut nD).mut nF0, (upd_ne hDF).trans upd_same, hF2, ?_⟩
        rw [upd_same, htk, hidx]
        unfold nvs
        rw [List.map_append]
        rfl
    · obtain ⟨y3, y4, kvs, rfl, e, hD, hF, hfd⟩ := hp
      rw [hl, List.take_of_length_le (by rw [firsts_len]; exact Nat.le_refl _)] at hfd
      exact ⟨_, rfl, F, _, rfl, .inl ⟨sq_of hfd, fun r nr => q r _ (e.trans (Ex.new nr)) (fresh_back e nr) upd_same⟩⟩
theorem ok_by_keysI (T : Txt K mg AA) : Pr P w K mg base "by_keys" s_by_keys p_by_keys 1 (spKeysI K) := by
  refine pr_mk T.f_by_keys sc_by_keys (fun vs H Q E h => ?_) (fun f cdv A outer s H vs Q E hr h => ?_)
  · obtain ⟨a, us, ks, rfl, _⟩ := h
    rfl
  · obtain ⟨a, us, ks, rfl, ha, hl, hn, hk, q⟩ := h
    refine ⟨_, (pss_cons (ps_set (i := 1) sc_by_keys.nd rfl (.inl rfl) pe_dnewA)
      (pss_cons (ps_set (i := 2) sc_by_keys.nd rfl (.inl rfl) (pe_lst pa_nil))
      (pss_cons (ps_for PassesOwn.never rfl (pi_enumLSK (K := K) rfl (by rfl) T.n_enumerate (pa_cons (pv 0) pa_nil) (pk_cons pe_int pk_nil)) (pg_tup (by rfl) (pgs_cons (pg_name (i := 3) sc_by_keys.nd rfl (.inl rfl)) (pgs_cons (pg_name (i := 4) sc_by_keys.nd rfl (.inl rfl)) pgs_nil)))
      (pss_one (ps_expr (pe_bm PySem.F.plainAttrs_list PySem.F.slot_list_append PySem.F.type_list_append mt_append (pv 2) (pa_cons (pe_dsetdA hr.units (pv 1) (pv 4) (pv 3) ⟨by rfl, by rfl, by rfl, by rfl⟩) pa_nil)))))
      (pss_one (ps_ret (pe_callTy call_tuple_of (by rfl) T.n_tuple PyProof.Rows.boot_tuple (pa_cons (pv 2) pa_nil))))))), ?_⟩
    refine .inl fun D nD => ?_
    refine ⟨by show 0 ≤ sizeLine; decide, fun F nF => ?_⟩
    have hDF : D ≠ F := ne_of_none upd_same nF
    have nF0 : H F = none := fresh_back (Ex.new nD) nF
    refine ⟨_, rfl, a, 1, us, rfl, rfl, by omega, by omega, ex_l ((Ex.new nD).trans (Ex.new nF)) ha, ?_⟩
    refine for_it (walk_enumL (xs := us)) (fun i σ H' => ∃ (y3 y4 : Option V) (kvs : List (L2.Key × V)), σ = [some (.ref a), some (.ref D), some (.ref F), y3, y4] ∧ Ex H H' ∧ H' D = some (.dK kvs) ∧ Fsts ks i kvs ∧ H' F = some (.lst (nvs ((firsts ks).take i)))) ⟨none, none, [], rfl, (Ex.new nD).trans (Ex.new nF), (upd_ne hDF).trans upd_same, Fsts.zero ks, upd_same⟩ (fun i σ H' _ hp => ?_) (fun i v σ H1 H2 hi hp hy => ?_) (fun σ H' hp => ?_)
    · obtain ⟨_, _, _, rfl, e, _⟩ := hp
      exact ex_l e ha
    · obtain ⟨y3, y4, kvs, rfl, e, hD, hF, hfd⟩ := hp
      obtain ⟨T1, u1, u2, rfl, hT, rfl, g1, g2⟩ := hy
      have hki : ks[i]? = some (ks[i]'(by omega)) := List.getElem?_eq_getElem _
      generalize ks[i]'(by omega) = k at hki
      obtain rfl := hk i u2 k g2 hki
      have z1 : (1 : Int) + (i : Int) = ((i + 1 : Nat) : Int) := by omega
      obtain rfl : V.int ((i + 1 : Nat) : Int) = u1 := by
        rw [← z1]
        exact Option.some.inj g1
      have e2 : Ex H1 (upd H1 T1 (.tup [.int ((i + 1 : Nat) : Int), kV k])) := Ex.new hT
      have htk : (firsts ks).take (i + 1) = (firsts ks).take i ++ [fstOf ks k] := by
        rw [List.take_add_one, firsts_get hki]
        rfl
      have hfl : (nvs ((firsts ks).take i)).length < sizeLine := by
        rw [nvs_len, List.length_take, firsts_len]
        have : 4097 < sizeLine := by decide
        omega
      refine ⟨T1, _, rfl, st_of upd_same, rfl, _, _, rfl, _, _, rfl, rfl, ?_⟩
      refine ⟨_, rfl, .inl ⟨rfl, _, sq_of (e2 _ _ hfd)⟩, _, rfl, D, rfl, .inl ⟨_, .inl (e2 _ _ hD)⟩, _, rfl, _, rfl, .inl ⟨kvs, k, e2 _ _ hD, rfl, ?_, fun v hv => ?_, fun hv => ?_⟩⟩
      · have := hF.len
        have : 4097 < sizeLine := by decide
        omega
      · obtain ⟨rfl, hF2⟩ := hF.has hki hv
        refine ⟨F, _, _, rfl, rfl, e2 _ _ hfd, hfl, _, _, kvs, rfl, (e.trans e2).mut nF0, (upd_ne hDF).trans (e2 _ _ hD), hF2, ?_⟩
        rw [upd_same, htk]
        unfold nvs
        rw [List.map_append]
        rfl
      · obtain ⟨hidx, hF2⟩ := hF.new hki hv
        refine ⟨F, _, _, rfl, rfl, (upd_ne hDF.symm).trans (e2 _ _ hfd), hfl, _, _, _, rfl, ((e.trans e2).mut nD).mut nF0, (upd_ne hDF).trans upd_same, hF2, ?_⟩
        rw [upd_same, htk, hidx]
        unfold nvs
        rw [List.map_append]
        rfl
    · obtain ⟨y3, y4, kvs, rfl, e, hD, hF, hfd⟩ := hp
      rw [hl, List.take_of_length_le (by rw [firsts_len]; exact Nat.le_refl _)] at hfd
      exact ⟨_, rfl, F, _, rfl, .inl ⟨sq_of hfd, fun r nr => q r _ (e.trans (Ex.new nr)) (fresh_back e nr) upd_same⟩⟩
end
end Eyes

set_option Elab.async false
set_option linter.all false
set_option maxRecDepth 100000
set_option maxHeartbeats 4000000
/-! list(zip(*rows)) of two rows, list(zip(p, q)): the pairs stay in the list, so each one is new. -/
namespace Eyes
open PySem PySem.Spec PyProof.Rows L2
section
variable {prog : Program} {w : World} {A : Around} {E : Value → Shared → Prop} {s : Shared}
theorem zl_item {z u o T c d p q : Addr} {b : Bool} {oT : Obj} {m : Nat} {us vs : Array Value} {x y : Value} {Q : Value → Shared → Prop} (D : ZipApart z u o c d p q) (Z : IsZipHeld s.heap z u o T b) (gT : s.heap.get? T = some oT) (U : IsPair s.heap u (.ref c) (.ref d))
    (C : s.heap.IsTupleIter c p m) (G : s.heap.IsTupleIter d q m) (P1 : s.heap.IsTuple p us) (P2 : s.heap.IsTuple q vs) (gx : us[m]? = some x) (gy : vs[m]? = some y)
    (k : ∀ h', IsZipHeld h' z u o T true → h'.IsTupleIter c p (m + 1) → h'.IsTupleIter d q (m + 1) → IsPair h' s.heap.objs.size x y → h'.objs.size = s.heap.objs.size + 1 → (∀ a ob, a ∉ [z, c, d] → s.heap.get? a = some ob → h'.get? a = some ob) → Q (.ref s.heap.objs.size) { s with heap := h' }) :
    wpAny (model prog w) A (Builtin.«zip.__next__» ⟨[.ref z], []⟩) (fun r s' => ∃ v, r = .done (.ret v) ∧ Q v s') E s := by
  show wpAny _ _ (do let f ← field (.ref z) 2; _) _ _ _
  refine wpAny_bind (wpAny_field Z rfl (x := Value.bool false) rfl ?_)
  show wpAny _ _ (do let f ← field (.ref z) 3; _) _ _ _
  refine wpAny_bind (wpAny_field Z rfl (x := Value.ref u) rfl (wpAny_bind (wpAny_seqItems U rfl ?_)))
  show wpAny _ _ (do let f ← Builtin.SmallTypes.ownedTupleIsFree (.ref z); _) _ _ _
  refine wpAny_bind (wpAny_tupleHeld_zip Z gT fun ha Za sa => ?_)
  simp only [Bool.false_eq_true, if_false]
  refine wpAny_bind ?_
  rw [← Array.forIn_toList]
  simp only [List.forIn_cons, List.forIn_nil]
  refine wpAny_bind (wpAny_bind (wpAny_holding ?_))
  show wpAny _ _ (do let f ← Builtin.SmallTypes.nextOf (.ref c); _) _ _ _
  have ea := sa.extBut
  refine wpAny_bind (RZ.nextOf_tuple_item (s := { s with heap := ha }) (C.extBut ea D.i1z) (P1.extBut ea D.l1z) gx fun hb Cb sb => wpAny_pure (wpAny_pure (wpAny_bind (wpAny_bind (wpAny_holding ?_)))))
  show wpAny _ _ (do let f ← Builtin.SmallTypes.nextOf (.ref d); _) _ _ _
  have eb := sb.extBut
  refine wpAny_bind (RZ.nextOf_tuple_item (s := { s with heap := hb }) ((G.extBut ea D.i2z).extBut eb D.i12.symm) ((P2.extBut ea D.l2z).extBut eb D.l2i1) gy fun hc Gc sc => wpAny_pure (wpAny_pure (wpAny_pure ?_)))
  have ec := sc.extBut
  have hn : hc.objs.size = s.heap.objs.size := by rw [sc.1, sb.1, sa.1]
  have Zc : IsZipHeld hc z u o T true := ec _ _ D.i2z.symm (eb _ _ D.i1z.symm Za)
  have keep : ∀ a ob, a ∉ [z, c, d] → s.heap.get? a = some ob → hc.get? a = some ob := fun a ob ha e => by
    simp only [List.mem_cons, List.not_mem_nil, or_false, not_or] at ha
    exact ec _ _ ha.2.2 (eb _ _ ha.2.1 (ea _ _ ha.1 e))
  show wpAny _ _ (do let t ← newTuple [x, y]; _) _ _ _
  refine wpAny_bind (wpAny_newTuple (wpAny_pure ⟨_, rfl, ?_⟩))
  have Pn : IsPair (hc.push { cls := .type "tuple", data := .seq #[x, y] }) hc.objs.size x y := Heap.get?_push_size _ rfl
  have sn : (hc.push { cls := .type "tuple", data := .seq #[x, y] }).objs.size = hc.objs.size + 1 := Heap.size_push ..
  show Q (.ref hc.objs.size) _
  rw [hn] at Pn sn ⊢
  exact k _ (Heap.get?_push_of_some _ Zc) ((Cb.extBut ec D.i12).at fun _ e => Heap.get?_push_of_some _ e) (Gc.at fun _ e => Heap.get?_push_of_some _ e) Pn sn fun a ob ha e => Heap.get?_push_of_some _ (keep a ob ha e)
theorem zl_next {z u o T c d p q : Addr} {b : Bool} {oT : Obj} {m : Nat} {us vs : Array Value} {x y : Value} {Q : Option Value → Shared → Prop} (D : ZipApart z u o c d p q) (Z : IsZipHeld s.heap z u o T b) (gT : s.heap.get? T = some oT) (U : IsPair s.heap u (.ref c) (.ref d))
    (C : s.heap.IsTupleIter c p m) (G : s.heap.IsTupleIter d q m) (P1 : s.heap.IsTuple p us) (P2 : s.heap.IsTuple q vs) (gx : us[m]? = some x) (gy : vs[m]? = some y)
    (k : ∀ h', IsZipHeld h' z u o T true → h'.IsTupleIter c p (m + 1) → h'.IsTupleIter d q (m + 1) → IsPair h' s.heap.objs.size x y → h'.objs.size = s.heap.objs.size + 1 → (∀ a ob, a ∉ [z, c, d] → s.heap.get? a = some ob → h'.get? a = some ob) → Q (some (.ref s.heap.objs.size)) { s with heap := h' }) :
    wpAny (model prog w) A (pyNext (.ref z)) Q E s := by
  have ty : s.TypeIs (.ref z) "zip" := ⟨_, Z, rfl⟩
  unfold pyNext
  refine wpAny_bind (wpAny_attempt (wpAny_callSpecial?_slot (name := Str.ofString "__next__") ty F.slot_zip_next (wpAny_call_entry F.slot_zip_next ty F.entry_zip_next ?_ (F.args_zip_next_1 _))))
  exact zl_item D Z gT U C G P1 P2 gx gy fun h' a1 a2 a3 a4 a5 a6 => wpAny_pure (k h' a1 a2 a3 a4 a5 a6)
theorem zl_stop {z u o T c d p q : Addr} {b : Bool} {oT : Obj} {m : Nat} {us vs : Array Value} {Q : PySem.Fin → Shared → Prop} (hh : A.handled = none) (D : ZipApart z u o c d p q) (Z : IsZipHeld s.heap z u o T b) (gT : s.heap.get? T = some oT) (U : IsPair s.heap u (.ref c) (.ref d))
    (C : s.heap.IsTupleIter c p m) (P1 : s.heap.IsTuple p us) (gx : us[m]? = none)
    (k : ∀ h' e, (∀ a ob, a ∉ [z, c, d] → s.heap.get? a = some ob → h'.get? a = some ob) → (∃ ob, h'.get? e = some ob ∧ ob.cls = .type "StopIteration") → E (.ref e) { s with heap := h' }) :
    wpAny (model prog w) A (Builtin.«zip.__next__» ⟨[.ref z], []⟩) Q E s := by
  show wpAny _ _ (do let f ← field (.ref z) 2; _) _ _ _
  refine wpAny_bind (wpAny_field Z rfl (x := Value.bool false) rfl ?_)
  show wpAny _ _ (do let f ← field (.ref z) 3; _) _ _ _
  refine wpAny_bind (wpAny_field Z rfl (x := Value.ref u) rfl (wpAny_bind (wpAny_seqItems U rfl ?_)))
  show wpAny _ _ (do let f ← Builtin.SmallTypes.ownedTupleIsFree (.ref z); _) _ _ _
  refine wpAny_bind (wpAny_tupleHeld_zip Z gT fun ha Za sa => ?_)
  simp only [Bool.false_eq_true, if_false]
  refine wpAny_bind ?_
  rw [← Array.forIn_toList]
  simp only [List.forIn_cons, List.forIn_nil]
  refine wpAny_bind (wpAny_bind (wpAny_holding ?_))
  show wpAny _ _ (do let f ← Builtin.SmallTypes.nextOf (.ref c); _) _ _ _
  have ea := sa.extBut
  refine wpAny_bind (RZ.nextOf_tuple_end (s := { s with heap := ha }) hh (C.extBut ea D.i1z) (P1.extBut ea D.l1z) gx fun hb e eb he => ?_)
  refine k hb e (fun a ob na q => ?_) he
  simp only [List.mem_cons, List.not_mem_nil, or_false, not_or] at na
  exact eb _ _ na.2.1 (ea _ _ na.1 q)
theorem zl_end {z u o T c d p q : Addr} {b : Bool} {oT : Obj} {m : Nat} {us vs : Array Value} {Q : Option Value → Shared → Prop} (hh : A.handled = none) (D : ZipApart z u o c d p q) (Z : IsZipHeld s.heap z u o T b) (gT : s.heap.get? T = some oT) (U : IsPair s.heap u (.ref c) (.ref d))
    (C : s.heap.IsTupleIter c p m) (P1 : s.heap.IsTuple p us) (gx : us[m]? = none)
    (k : ∀ h', (∀ a ob, a ∉ [z, c, d] → s.heap.get? a = some ob → h'.get? a = some ob) → Q none { s with heap := h' }) :
    wpAny (model prog w) A (pyNext (.ref z)) Q E s := by
  have ty : s.TypeIs (.ref z) "zip" := ⟨_, Z, rfl⟩
  unfold pyNext
  refine wpAny_bind (wpAny_attempt (wpAny_callSpecial?_slot (name := Str.ofString "__next__") ty F.slot_zip_next (wpAny_call_entry F.slot_zip_next ty F.entry_zip_next ?_ (F.args_zip_next_1 _))))
  refine zl_stop (us := us) (vs := vs) (q := q) hh D Z gT U C P1 gx fun h' e kp he => ?_
  obtain ⟨ob, ho, hc⟩ := he
  have hT : (Shared.TypeIs { s with heap := h' } (.ref e) "StopIteration") := ⟨ob, ho, hc⟩
  have hsub : isSubtype (.type "StopIteration") (.type "StopIteration") = pure true := by
    rw [isSubtype_type]
    kernel_rfl
  repeat (any_goals (first | assumption | exact k h' kp | wp_step))
end
structure Zst (b0 : Heap) (S z u o c d : Addr) (xs ys : List Value) (m : Nat) (ts : List Addr) (h : Heap) : Prop where
  len : ts.length = m
  keep : ∀ a ob, b0.get? a = some ob → h.get? a = some ob
  lst : ∃ n, h.get? S = some { cls := .type "list", data := .seq (ts.map Value.ref).toArray n }
  new : ∀ t ∈ ts, b0.objs.size ≤ t ∧ (∃ ob, h.get? t = some ob) ∧ t ∉ [S, z, u, o, c, d]
  nd : ts.Nodup
  at_ : ∀ (i : Nat) (t : Addr) (x y : Value), ts[i]? = some t → xs[i]? = some x → ys[i]? = some y → h.get? t = some { cls := .type "tuple", data := .seq #[x, y] }
section
variable {prog : Program} {w : World} {A : Around} {R : Result → Shared → Prop} {b0 h h' : Heap} {S z u o c d p q : Addr} {xs ys : List Value} {m : Nat} {ts : List Addr}
theorem Zst.turn (st : Zst b0 S z u o c d xs ys m ts h) (old : ∀ a ∈ [z, c, d], b0.objs.size ≤ a) (apS : S ∉ [z, c, d]) (kp : ∀ a ob, a ∉ [z, c, d] → h.get? a = some ob → h'.get? a = some ob) : Zst b0 S z u o c d xs ys m ts h' := by
  obtain ⟨n, hS⟩ := st.lst
  have sub6 : ∀ {a : Addr}, a ∈ [z, c, d] → a ∈ [S, z, u, o, c, d] := fun {a} hm => by
    simp only [List.mem_cons, List.not_mem_nil, or_false] at hm ⊢
    rcases hm with e | e | e
    · exact .inr (.inl e)
    · exact .inr (.inr (.inr (.inr (.inl e))))
    · exact .inr (.inr (.inr (.inr (.inr e))))
  refine ⟨st.len, fun a ob e => kp _ _ (fun hm => ?_) (st.keep _ _ e), ⟨n, kp _ _ apS hS⟩, fun t ht => ⟨(st.new t ht).1, (st.new t ht).2.1.imp fun ob e => kp _ _ (fun hm => (st.new t ht).2.2 (sub6 hm)) e, (st.new t ht).2.2⟩, st.nd, fun i t x y e1 e2 e3 => kp _ _ (fun hm => (st.new t (List.mem_of_getElem? e1)).2.2 (sub6 hm)) (st.at_ i t x y e1 e2 e3)⟩
  exact Nat.lt_irrefl _ (Nat.lt_of_lt_of_le (Heap.lt_size e) (old a hm))
theorem Zst.push (st : Zst b0 S z u o c d xs ys m ts h) {T : Addr} (hT : h.get? T = none) (hT0 : b0.objs.size ≤ T) (hT2 : T ∉ [S, z, u, o, c, d]) (hT3 : ∃ ob, h'.get? T = some ob) (old : ∀ a ∈ [S, z, c, d], b0.objs.size ≤ a) (kp : ∀ a ob, a ∉ [S, z, c, d] → h.get? a = some ob → h'.get? a = some ob)
    (hS : ∃ n, h'.get? S = some { cls := .type "list", data := .seq ((ts ++ [T]).map Value.ref).toArray n }) (hp : ∀ x y, xs[m]? = some x → ys[m]? = some y → h'.get? T = some { cls := .type "tuple", data := .seq #[x, y] }) : Zst b0 S z u o c d xs ys (m + 1) (ts ++ [T]) h' := by
  have nS : ∀ {a ob}, b0.get? a = some ob → a ∉ [S, z, c, d] := fun {a ob} e hm => Nat.lt_irrefl _ (Nat.lt_of_lt_of_le (Heap.lt_size e) (old a hm))
  have sub6 : ∀ {a : Addr}, a ∉ [S, z, u, o, c, d] → a ∉ [S, z, c, d] := fun {a} hn hm => hn (by
    simp only [List.mem_cons, List.not_mem_nil, or_false] at hm ⊢
    rcases hm with e | e | e | e
    · exact .inl e
    · exact .inr (.inl e)
    · exact .inr (.inr (.inr (.inr (.inl e))))
    · exact .inr (.inr (.inr (.inr (.inr e)))))
  refine ⟨by rw [List.length_append, st.len]; rfl, fun a ob e => kp _ _ (nS e) (st.keep _ _ e), hS, fun t ht => ?_, ?_, fun i t x y e1 e2 e3 => ?_⟩
  · rcases List.mem_append.mp ht with ht | ht
    · obtain ⟨a1, a2, a3⟩ := st.new t ht
      exact ⟨a1, a2.imp fun ob e => kp _ _ (sub6 a3) e, a3⟩
    · rw [List.mem_singleton.mp ht]
      exact ⟨hT0, hT3, hT2⟩
  · refine List.nodup_append.mpr ⟨st.nd, by simp, fun a ha b hb e => ?_⟩
    rw [List.mem_singleton.mp hb] at e
    obtain ⟨ob, h2⟩ := (st.new a ha).2.1
    rw [e, hT] at h2
    cases h2
  · by_cases hi : i < ts.length
    · rw [List.getElem?_append_left hi] at e1
      exact kp _ _ (sub6 (st.new t (List.mem_of_getElem? e1)).2.2) (st.at_ i t x y e1 e2 e3)
    · have hl := st.len
      have : i = m := by
        have := (List.getElem?_eq_some_iff.mp e1).1
        rw [List.length_append] at this
        simp at this
        omega
      subst this
      rw [List.getElem?_append_right (by omega), hl, Nat.sub_self] at e1
      rw [← Option.some.inj e1]
      exact hp x y e2 e3
theorem mapSeq_push (ts : List Addr) (t : Addr) (n : Nat) : some (Obj.mapSeq (·.push (.ref t)) { cls := .type "list", data := .seq (ts.map Value.ref).toArray n }) = some { cls := .type "list", data := .seq ((ts ++ [t]).map Value.ref).toArray (if ((ts.map Value.ref).toArray.push (.ref t)).size == (ts.map Value.ref).toArray.size then n else n + 1) } := by
  simp [Obj.mapSeq]
theorem zl_loop (hh : A.handled = none) (D : ZipApart z u o c d p q) (l1 : b0.IsTuple p xs.toArray) (l2 : b0.IsTuple q ys.toArray) (hl : xs.length = ys.length) (hsz : xs.length ≤ sizeLine) (apS : S ∉ [z, u, o, c, d]) (old : ∀ a ∈ [S, z, u, o, c, d], b0.objs.size ≤ a) (res : Value) :
    ∀ (k m : Nat) (s : Shared) (ts : List Addr) (T : Addr) (b : Bool) (oT : Obj), xs.length - m = k → m ≤ xs.length → Zst b0 S z u o c d xs ys m ts s.heap → IsPair s.heap u (.ref c) (.ref d) → s.heap.IsTupleIter c p m → s.heap.IsTupleIter d q m → (∀ a ∈ [S, z, u, o, c, d], a < s.heap.objs.size) → b0.objs.size ≤ s.heap.objs.size →
    IsZipHeld s.heap z u o T b → s.heap.get? T = some oT → T ∉ [S, z, c, d] →
    (∀ h' ts', Zst b0 S z u o c d xs ys xs.length ts' h' → R (.ok (.ret res)) { s with heap := h' }) → codeAny (model prog w) A (.builtin "list.extend.loop" ⟨[.ref S, .ref z, res], []⟩) R s := by
  have nS : ∀ {a : Addr}, a ∈ [z, u, o, c, d] → a ≠ S := fun {a} ha e => apS (e ▸ ha)
  have sub3 : ∀ {a : Addr}, a ∈ [z, c, d] → a ∈ [z, u, o, c, d] := fun {a} hm => by
    simp only [List.mem_cons, List.not_mem_nil, or_false] at hm ⊢
    rcases hm with e | e | e
    · exact .inl e
    · exact .inr (.inr (.inr (.inl e)))
    · exact .inr (.inr (.inr (.inr e)))
  have apS3 : S ∉ [z, c, d] := fun hm => apS (sub3 hm)
  have old3 : ∀ a ∈ [z, c, d], b0.objs.size ≤ a := fun a ha => old a (List.mem_cons_of_mem _ (sub3 ha))
  intro k
  induction k with
  | zero =>
    intro m s ts T b oT hk hm st U C G lo b0s Z gT aT fin
    have e : m = xs.length := by omega
    subst e
    refine codeAny_builtin F.entry_extend_loop ?_
    rw [Around.under_plainId F.plain_extend_loop _]
    show wpAny _ A.in1 (do let r ← pyNext (.ref z); _) _ _ s
    refine wpAny_bind (zl_end (us := xs.toArray) (vs := ys.toArray) (q := q) hh D Z gT U C (l1.at fun ob e => st.keep _ _ e) (by simp) fun h' kp => wpAny_pure ?_)
    exact fin h' ts (st.turn old3 apS3 kp)
  | succ k ih =>
    intro m s ts T b oT hk hm st U C G lo b0s Z gT aT fin
    have hlt : m < xs.length := by omega
    obtain ⟨n, hS⟩ := st.lst
    have gx : xs[m]? = some xs[m] := List.getElem?_eq_getElem hlt
    have gy : ys[m]? = some (ys[m]'(by omega)) := List.getElem?_eq_getElem _
    refine codeAny_builtin F.entry_extend_loop ?_
    rw [Around.under_plainId F.plain_extend_loop _]
    show wpAny _ A.in1 (do let r ← pyNext (.ref z); _) _ _ s
    have P1 : s.heap.IsTuple p xs.toArray := l1.at fun ob e => st.keep _ _ e
    have P2 : s.heap.IsTuple q ys.toArray := l2.at fun ob e => st.keep _ _ e
    refine wpAny_bind (zl_next D Z gT U C G P1 P2 (x := xs[m]) (y := ys[m]'(by omega)) (by rw [List.getElem?_toArray]; exact gx) (by rw [List.getElem?_toArray]; exact gy) fun h' Z' C' G' Pn sn kp => ?_)
    have hS' : h'.get? S = some { cls := .type "list", data := .seq (ts.map Value.ref).toArray n } := kp _ _ apS3 hS
    show wpAny _ A.in1 (do let r ← updateSeq S (·.push (.ref s.heap.objs.size)); _) _ _ _
    refine wpAny_bind ?_
    have gone : ∀ {a ob}, a ≠ S → h'.get? a = some ob → (h'.update S (Obj.mapSeq (·.push (.ref s.heap.objs.size)))).get? a = some ob := fun {a ob} na e => (Heap.get?_update_other _ _ (Ne.symm na)).trans e
    have nnew : s.heap.objs.size ≠ S := fun e => Nat.lt_irrefl _ (e ▸ lo S List.mem_cons_self)
    have su : (h'.update S (Obj.mapSeq (·.push (.ref s.heap.objs.size)))).objs.size = s.heap.objs.size + 1 := by rw [← sn]; exact Heap.size_update ..
    have aT' : T ≠ S := fun e => aT (by rw [e]; exact List.mem_cons_self)
    have gT' : (h'.update S (Obj.mapSeq (·.push (.ref s.heap.objs.size)))).get? s.heap.objs.size = some { cls := .type "tuple", data := .seq #[xs[m], ys[m]'(by omega)] } := gone nnew Pn
    have loz : ∀ a ∈ [S, z, u, o, c, d], a ≠ s.heap.objs.size := fun a ha e => Nat.lt_irrefl _ (e ▸ lo a ha)
    have st1 : Zst b0 S z u o c d xs ys m ts { s with heap := s.heap }.heap := st
    have hfree : s.heap.get? s.heap.objs.size = none := by
      cases e : s.heap.get? s.heap.objs.size with
      | none => rfl
      | some ob => exact absurd (Heap.lt_size e) (Nat.lt_irrefl _)
    have acl : (ts.map Value.ref).toArray.size = m := by simp [st.len]
    refine wpAny_updateSeq hS' rfl (wpAny_pure ⟨plainId_quiet F.plain_extend_loop _, ih (m + 1) _ (ts ++ [s.heap.objs.size]) T true oT (by omega) hlt ?_ (gone (nS (by simp)) (kp _ _ (fun hm => ?_) U)) (C'.at fun _ e => gone (nS (by simp)) e) (G'.at fun _ e => gone (nS (by simp)) e) (fun a ha => by
      rw [su]
      exact Nat.lt_succ_of_lt (lo a ha)) (by
      show b0.objs.size ≤ (h'.update S (Obj.mapSeq (·.push (.ref s.heap.objs.size)))).objs.size
      rw [su]
      exact Nat.le_succ_of_le b0s) (gone (nS (by simp)) Z') (gone aT' (kp _ _ (fun hm => aT (List.mem_cons_of_mem _ hm)) gT)) aT fun h2 ts2 hz => fin h2 ts2 hz⟩) ?_ ?_
    · have kp2 : ∀ a ob, a ∉ [S, z, c, d] → s.heap.get? a = some ob → (h'.update S (Obj.mapSeq (·.push (.ref s.heap.objs.size)))).get? a = some ob := fun a ob na e => gone (fun z => na (by rw [z]; exact List.mem_cons_self)) (kp _ _ (fun hm => na (List.mem_cons_of_mem _ hm)) e)
      refine st.push (T := s.heap.objs.size) hfree b0s (fun hm => loz _ hm rfl) ⟨_, gT'⟩ (fun a ha => ?_) kp2 ⟨_, (Heap.get?_update_self _ hS' rfl).trans (mapSeq_push ts _ n)⟩ fun x y e1 e2 => ?_
      · rcases List.mem_cons.mp ha with rfl | ha
        · exact old _ List.mem_cons_self
        · exact old3 _ ha
      · rw [gx] at e1
        rw [gy] at e2
        cases e1
        cases e2
        exact gT'
    · simp only [List.mem_cons, List.not_mem_nil, or_false] at hm
      rcases hm with e | e | e
      · exact D.TIz e
      · exact D.TIi1 e
      · exact D.TIi2 e
    · rw [acl]
      omega
    · rw [Array.size_push, acl]
      omega
theorem zip_no_len : typeLookup (.type "zip") "__len__" = pure none := by
  rw [typeLookup_type, builtinLookup_eq_fast]
  kernel_rfl
theorem zip_no_hint : typeLookup (.type "zip") "__length_hint__" = pure none := by
  rw [typeLookup_type, builtinLookup_eq_fast]
  kernel_rfl
theorem zl_list {E : Value → Shared → Prop} {Q : Value → Shared → Prop} {s : Shared} (hh : A.handled = none) (D : ZipApart z u o c d p q) (l1 : b0.IsTuple p xs.toArray) (l2 : b0.IsTuple q ys.toArray) (hl : xs.length = ys.length) (h0 : 0 < xs.length) (hsz : xs.length ≤ sizeLine) (old : ∀ a ∈ [z, u, o, c, d], b0.objs.size ≤ a ∧ a < s.heap.objs.size)
    (b0s : b0.objs.size ≤ s.heap.objs.size) (kb : ∀ a ob, b0.get? a = some ob → s.heap.get? a = some ob) (Z : IsZip s.heap z u o .none) (U : IsPair s.heap u (.ref c) (.ref d)) (O : IsPair s.heap o .none .none) (C : s.heap.IsTupleIter c p 0) (G : s.heap.IsTupleIter d q 0)
    (fin : ∀ h' ts', s.heap.objs.size < h'.objs.size → Zst b0 s.heap.objs.size z u o c d xs ys xs.length ts' h' → Q (.ref s.heap.objs.size) { s with heap := h' }) : wpAny (model prog w) A (call (.type "list") [.ref z]) Q E s := by
  have zS : ∀ {a : Addr}, a ∈ [z, u, o, c, d] → a ≠ s.heap.objs.size := fun {a} ha => Nat.ne_of_lt (old a ha).2
  refine callType_codes (Q₁ := fun obj s1 => obj = .ref s.heap.objs.size ∧ s1 = { s with heap := s.heap.push { cls := .type "list", data := .seq #[] } }) F.called_list (F.typeCall_list_1 _) F.entry_list_init (code_list_new _ ⟨rfl, rfl⟩) fun obj s1 e1 => ?_
  obtain ⟨rfl, rfl⟩ := e1
  have hS : (s.heap.push { cls := .type "list", data := .seq #[] }).get? s.heap.objs.size = some { cls := .type "list", data := .seq #[] } := Heap.get?_push_size _ rfl
  refine ⟨⟨_, hS, rfl⟩, F.args_list_init_2 _ _, ?_⟩
  generalize hN : s.heap.objs.size = N at zS hS fin ⊢
  generalize hA1 : A.in1 = A1
  have hh1 : A1.handled = none := by rw [← hA1]; exact hh
  show wpAny _ A1.in1 (do let was ← Builtin.List.listItems (.ref N); Builtin.List.listUpdate (.ref N) (fun _ => #[]); letGo was.toList.reverse; Builtin.List.listExtendWith (.ref N) (.ref z) .none) _ _ _
  refine wpAny_bind ?_
  unfold Builtin.List.listItems
  refine wpAny_bind (wpAny_seqItems hS rfl (wpAny_pure ?_))
  show wpAny _ A1.in1 (do updateSeq N (fun _ => #[]); letGo (#[] : Array Value).toList.reverse; Builtin.List.listExtendWith (.ref N) (.ref z) .none) _ _ _
  refine wpAny_bind (wpAny_updateSeq hS rfl (wpAny_bind (wpAny_letGo ?_)))
  have hS2 := Heap.get?_update_self (Obj.mapSeq fun _ => (#[] : Array Value)) hS rfl
  have kp0 : ∀ a ob, s.heap.get? a = some ob → ((s.heap.push { cls := .type "list", data := .seq #[] }).update N (Obj.mapSeq fun _ => (#[] : Array Value))).get? a = some ob := fun a ob e => (Heap.get?_update_other _ _ (fun z => by
    have := Heap.lt_size e
    rw [← z, hN] at this
    exact Nat.lt_irrefl _ this)).trans (Heap.get?_push_of_some _ e)
  have su : ((s.heap.push { cls := .type "list", data := .seq #[] }).update N (Obj.mapSeq fun _ => (#[] : Array Value))).objs.size = N + 1 := by
    rw [Heap.size_update, Heap.size_push, hN]
  have hS3 : ∃ n, ((s.heap.push { cls := .type "list", data := .seq #[] }).update N (Obj.mapSeq fun _ => (#[] : Array Value))).get? N = some { cls := .type "list", data := .seq #[] n } := ⟨_, hS2.trans rfl⟩
  clear hS2 hS
  generalize (s.heap.push { cls := .type "list", data := .seq #[] }).update N (Obj.mapSeq fun _ => (#[] : Array Value)) = g0 at kp0 su hS3 ⊢
  obtain ⟨n, hS⟩ := hS3
  replace Z := kp0 _ _ Z
  replace U := kp0 _ _ U
  replace O := kp0 _ _ O
  replace C : g0.IsTupleIter c p 0 := C.at fun ob e => kp0 _ _ e
  replace G : g0.IsTupleIter d q 0 := G.at fun ob e => kp0 _ _ e
  have kb0 : ∀ a ob, b0.get? a = some ob → g0.get? a = some ob := fun a ob e => kp0 _ _ (kb _ _ e)
  have tyz : (Shared.TypeIs { s with heap := g0 } (.ref z) "zip") := ⟨_, Z, rfl⟩
  have Nz : N ≠ z := fun e => zS (a := z) (by simp) e.symm
  unfold Builtin.List.listExtendWith
  refine wpAny_bind (wpAny_typeOf tyz ?_)
  have e1 : Builtin.List.listSameRef (.ref N) (.ref z) = false := by simp [Builtin.List.listSameRef, Nz]
  have e2 : (Value.type "zip" == Value.type "list") = false := by decide
  have e3 : (Value.type "zip" == Value.type "tuple") = false := by decide
  simp only [e1, e2, e3, Bool.or_false, Bool.false_eq_true, if_false]
  refine wpAny_bind (wpAny_pyIter_zip Z (wpAny_bind (wpAny_holding ?_)))
  unfold Builtin.List.listLengthHint
  refine wpAny_bind (wpAny_specialOf tyz zip_no_len ?_)
  show wpAny _ A1.in1 (do let f ← specialOf (Value.ref z) (Str.ofString "__length_hint__"); _) _ _ _
  refine wpAny_bind (wpAny_specialOf tyz zip_no_hint (wpAny_pure ?_))
  show wpAny _ A1.in1 (do rule "list.extend.makes-room"; Builtin.List.listTouch (.ref N); again (.builtin "list.extend.loop" ⟨[.ref N, .ref z, .none], []⟩)) _ _ _
  refine wpAny_bind (wpAny_rule (wpAny_bind ?_))
  show wpAny _ A1.in1 (do updateSeq N (·.push .none); updateSeq N (·.pop)) _ _ _
  refine wpAny_bind (wpAny_updateSeq hS rfl ?_)
  have hT2 := Heap.get?_update_self (Obj.mapSeq (·.push Value.none)) hS rfl
  refine wpAny_updateSeq (hz := by seq_fits) hT2 rfl ?_
  have hT3 : ∃ n, ((g0.update N (Obj.mapSeq (·.push Value.none))).update N (Obj.mapSeq (·.pop))).get? N = some { cls := .type "list", data := .seq #[] n } := ⟨_, (Heap.get?_update_self (Obj.mapSeq (·.pop)) hT2 rfl).trans rfl⟩
  have kq : ∀ a ob, a ≠ N → g0.get? a = some ob → ((g0.update N (Obj.mapSeq (·.push Value.none))).update N (Obj.mapSeq (·.pop))).get? a = some ob := fun a ob na e => (Heap.get?_update_other _ _ (Ne.symm na)).trans ((Heap.get?_update_other _ _ (Ne.symm na)).trans e)
  have sv : ((g0.update N (Obj.mapSeq (·.push Value.none))).update N (Obj.mapSeq (·.pop))).objs.size = N + 1 := by
    rw [Heap.size_update, Heap.size_update, su]
  clear hT2 hS
  generalize (g0.update N (Obj.mapSeq (·.push Value.none))).update N (Obj.mapSeq (·.pop)) = g1 at hT3 kq sv ⊢
  obtain ⟨n, hS⟩ := hT3
  replace Z := kq _ _ (zS (by simp)) Z
  replace U := kq _ _ (zS (by simp)) U
  replace O := kq _ _ (zS (by simp)) O
  replace C : g1.IsTupleIter c p 0 := C.at fun ob e => kq _ _ (zS (by simp)) e
  replace G : g1.IsTupleIter d q 0 := G.at fun ob e => kq _ _ (zS (by simp)) e
  replace kb0 : ∀ a ob, b0.get? a = some ob → g1.get? a = some ob := fun a ob e => kq _ _ (fun y => by
    rw [y] at e
    have := Heap.lt_size e
    rw [← hN] at this
    exact Nat.lt_irrefl _ (Nat.lt_of_lt_of_le this b0s)) (kb0 _ _ e)
  refine wpAny_pure ⟨plainId_quiet F.plain_extend_loop _, ?_⟩
  -- the first pair
  have apS : N ∉ [z, u, o, c, d] := fun hm => zS hm rfl
  have gx : xs[0]? = some xs[0] := List.getElem?_eq_getElem h0
  have gy : ys[0]? = some (ys[0]'(by omega)) := List.getElem?_eq_getElem _
  refine codeAny_builtin F.entry_extend_loop ?_
  rw [Around.under_plainId F.plain_extend_loop _]
  show wpAny _ A1.in1 (do let r ← pyNext (.ref z); _) _ _ _
  refine wpAny_bind (RZ.pyNext_zipT_item D Z U O C G (l1.at fun ob e => kb0 _ _ e) (l2.at fun ob e => kb0 _ _ e) (x := xs[0]) (y := ys[0]'(by omega)) (by rw [List.getElem?_toArray]; exact gx) (by rw [List.getElem?_toArray]; exact gy) fun h' Z' O' C' G' Pn sn kp => ?_)
  have ozc : ∀ {a : Addr}, a ∈ [z, o, c, d] → a ∈ [z, u, o, c, d] := fun {a} hm => by
    simp only [List.mem_cons, List.not_mem_nil, or_false] at hm ⊢
    rcases hm with e | e | e | e
    · exact .inl e
    · exact .inr (.inr (.inl e))
    · exact .inr (.inr (.inr (.inl e)))
    · exact .inr (.inr (.inr (.inr e)))
  have kpn : ∀ a ob, a ∉ [z, o, c, d] → g1.get? a = some ob → h'.get? a = some ob := fun a ob na e => by
    simp only [List.mem_cons, List.not_mem_nil, or_false, not_or] at na
    exact kp _ _ na.1 na.2.1 na.2.2.1 na.2.2.2 e
  have hS' : h'.get? N = some { cls := .type "list", data := .seq #[] n } := kpn _ _ (fun hm => apS (ozc hm)) hS
  have n1 : ({ s with heap := g1 } : Shared).heap.objs.size = N + 1 := sv
  rw [n1] at Z' Pn sn ⊢
  show wpAny _ A1.in1 (do let r ← updateSeq N (·.push (.ref (N + 1))); _) _ _ _
  refine wpAny_bind ?_
  have sz5 : ∀ {a : Addr}, a ∈ [z, u, o, c, d] → a < N := fun {a} ha => by
    rw [← hN]
    exact (old a ha).2
  have gone : ∀ {a ob}, a ≠ N → h'.get? a = some ob → (h'.update N (Obj.mapSeq (·.push (.ref (N + 1))))).get? a = some ob := fun {a ob} na e => (Heap.get?_update_other _ _ (Ne.symm na)).trans e
  have sw : (h'.update N (Obj.mapSeq (·.push (.ref (N + 1))))).objs.size = N + 2 := by
    rw [Heap.size_update, sn]
  have gT := gone (Nat.succ_ne_self N) Pn
  have b0N : b0.objs.size ≤ N := by
    rw [← hN]
    exact b0s
  refine wpAny_updateSeq hS' rfl (wpAny_pure ⟨plainId_quiet F.plain_extend_loop _, zl_loop (b0 := b0) hh1 D l1 l2 hl hsz apS (fun a ha => ?_) .none (xs.length - 1) 1 _ [N + 1] (N + 1) false _ rfl h0 ?_ (gone (zS (by simp)) (kpn _ _ (fun hm => ?_) U)) (C'.at fun _ e => gone (zS (by simp)) e) (G'.at fun _ e => gone (zS (by simp)) e) (fun a ha => ?_) ?_ (gone (zS (by simp)) Z') gT (fun hm => ?_) fun h2 ts2 hz => ?_⟩)
  · rcases List.mem_cons.mp ha with rfl | ha
    · exact b0N
    · exact (old a ha).1
  · have five : ∀ a ob, b0.get? a = some ob → a ∉ [z, o, c, d] := fun a ob e hm => Nat.lt_irrefl _ (Nat.lt_of_lt_of_le (Heap.lt_size e) (old a (ozc hm)).1)
    refine ⟨rfl, fun a ob e => gone (fun y => ?_) (kpn _ _ (five _ _ e) (kb0 _ _ e)), ⟨_, (Heap.get?_update_self _ hS' rfl).trans (mapSeq_push [] _ n)⟩, fun t ht => ?_, by simp, fun i t x y e1 e2 e3 => ?_⟩
    · rw [y] at e
      exact Nat.lt_irrefl _ (Nat.lt_of_lt_of_le (Heap.lt_size e) b0N)
    · rw [List.mem_singleton.mp ht]
      refine ⟨Nat.le_succ_of_le b0N, ⟨_, gT⟩, fun hm => ?_⟩
      rcases List.mem_cons.mp hm with e | hm
      · exact Nat.succ_ne_self N e
      · exact absurd (sz5 hm) (Nat.not_lt.mpr (Nat.le_succ N))
    · cases i with
      | zero =>
        rw [← Option.some.inj e1]
        rw [gx] at e2
        rw [gy] at e3
        cases e2
        cases e3
        exact gT
      | succ i => cases e1
  · simp only [List.mem_cons, List.not_mem_nil, or_false] at hm
    rcases hm with e | e | e | e
    · exact D.TIz e
    · exact D.TITO e
    · exact D.TIi1 e
    · exact D.TIi2 e
  · show a < (h'.update N (Obj.mapSeq (·.push (.ref (N + 1))))).objs.size
    rw [sw]
    rcases List.mem_cons.mp ha with e | ha
    · rw [e]
      exact Nat.lt_succ_of_lt (Nat.lt_succ_self N)
    · exact Nat.lt_succ_of_lt (Nat.lt_succ_of_lt (sz5 ha))
  · show b0.objs.size ≤ (h'.update N (Obj.mapSeq (·.push (.ref (N + 1))))).objs.size
    rw [sw]
    exact Nat.le_succ_of_le (Nat.le_succ_of_le b0N)
  · rcases List.mem_cons.mp hm with e | hm
    · exact Nat.succ_ne_self N e
    · refine absurd (sz5 (a := N + 1) ?_) (Nat.not_lt.mpr (Nat.le_succ N))
      simp only [List.mem_cons, List.not_mem_nil, or_false] at hm ⊢
      rcases hm with e | e | e
      · exact .inl e
      · exact .inr (.inr (.inr (.inl e)))
      · exact .inr (.inr (.inr (.inr e)))
  · obtain ⟨k, hk⟩ := hz.lst
    exact ⟨rfl, fin h2 ts2 (Heap.lt_size hk) hz⟩
end
/-! ### the heap behind it -/
def layT (H : Hp) : List (Addr × List V) → Hp
  | [] => H
  | (t, c) :: r => upd (layT H r) t (.tup c)
theorem layT_none {H : Hp} {a : Addr} : ∀ {l : List (Addr × List V)}, (∀ p ∈ l, p.1 ≠ a) → layT H l a = H a
  | [], _ => rfl
  | (t, c) :: r, h => by
    show upd (layT H r) t (.tup c) a = _
    rw [upd_ne (fun e => h (t, c) List.mem_cons_self e.symm)]
    exact layT_none fun p hp => h p (List.mem_cons_of_mem _ hp)
theorem layT_at {H : Hp} : ∀ {l : List (Addr × List V)} {t : Addr} {c : List V}, (l.map (·.1)).Nodup → (t, c) ∈ l → layT H l t = some (.tup c)
  | (t', c') :: r, t, c, nd, h => by
    obtain ⟨n1, n2⟩ := List.nodup_cons.mp (show (t' :: r.map (·.1)).Nodup from nd)
    rcases List.mem_cons.mp h with e | h
    · cases e
      exact upd_same
    · show upd (layT H r) t' (.tup c') t = _
      rw [upd_ne fun e => n1 (by rw [← e]; exact List.mem_map.mpr ⟨_, h, rfl⟩)]
      exact layT_at n2 h
theorem layT_cases {H : Hp} {a : Addr} {ob : HO} : ∀ {l : List (Addr × List V)}, layT H l a = some ob → H a = some ob ∨ ∃ c, (a, c) ∈ l ∧ ob = .tup c
  | [], h => .inl h
  | (t, c) :: r, h => by
    by_cases e : a = t
    · subst e
      rw [show layT H ((a, c) :: r) a = some (.tup c) from upd_same] at h
      exact .inr ⟨c, List.mem_cons_self, (Option.some.inj h).symm⟩
    · rw [show layT H ((t, c) :: r) a = layT H r a from upd_ne e] at h
      exact (layT_cases h).imp id fun ⟨c, h1, h2⟩ => ⟨c, List.mem_cons_of_mem _ h1, h2⟩
theorem Inv.many {X : Cx} {pins : List (Addr × Obj)} {σ : L2.St} {H : Hp} {s : Shared} {h' : Heap} {l : List (Addr × List V)} {S : Addr} {vs : List V} {its : List Value} {n : Nat} (I : Inv X pins σ H s) (k : ∀ b o, s.heap.get? b = some o → h'.get? b = some o) (hl : ∀ p ∈ l, s.heap.objs.size ≤ p.1 ∧ p.1 ≠ S) (nd : (l.map (·.1)).Nodup) (hS : s.heap.objs.size ≤ S)
    (ok : ∀ p ∈ l, p.2.length ≤ sizeLine ∧ ∃ us, Vals p.2 us ∧ IsTup h' p.1 us.toArray) (hv : vs.length ≤ sizeLine) (rv : Vals vs its) (hs : h'.get? S = some { cls := .type "list", data := .seq its.toArray n }) : Inv X pins σ (upd (layT H l) S (.lst vs)) { s with heap := h' } := by
  have hn : ∀ {a : Addr}, s.heap.objs.size ≤ a → H a = none := fun {a} h => I.hok.fresh h
  have old : ∀ {a : Addr} {o : Obj}, s.heap.get? a = some o → (∀ p ∈ l, p.1 ≠ a) ∧ a ≠ S := fun {a o} e => by
    have := Heap.lt_size e
    exact ⟨fun p hp z => Nat.lt_irrefl _ (Nat.lt_of_lt_of_le this (z ▸ (hl p hp).1)), fun z => Nat.lt_irrefl _ (Nat.lt_of_lt_of_le this (z ▸ hS))⟩
  have tr : ∀ {a : Addr} {o : HO}, H a = some o → (∀ p ∈ l, p.1 ≠ a) ∧ a ≠ S := fun {a o} e => by
    have z := I.hok.lt e
    exact ⟨fun p hp y => Nat.lt_irrefl _ (Nat.lt_of_lt_of_le z (y ▸ (hl p hp).1)), fun y => Nat.lt_irrefl _ (Nat.lt_of_lt_of_le z (y ▸ hS))⟩
  have ext : ∀ {a : Addr} {o : HO}, H a = some o → upd (layT H l) S (.lst vs) a = some o := fun {a o} e => by
    rw [upd_ne (tr e).2, layT_none (tr e).1]
    exact e
  have no : ∀ {a : Addr} {o : Obj}, s.heap.get? a = some o → H a = none → upd (layT H l) S (.lst vs) a = none := fun {a o} e z => by
    rw [upd_ne (old e).2, layT_none (old e).1]
    exact z
  refine I.un (t' := s.toks) ⟨fun b ob q _ _ _ => k b ob q, fun b ob q _ _ _ => ⟨ob.slots, k b ob q⟩, fun b ob q z _ => no q z, fun b ob q _ => ⟨ob, k b ob q⟩, fun b xs q => ext q, fun b o u q => ext q, fun b ps q => ⟨#[], by rw [ext q]; simp⟩⟩ fun a o e => ?_
  by_cases ha : a = S
  · subst ha
    rw [upd_same] at e
    cases e
    exact ⟨hv, its, n, rv, hs⟩
  · rw [upd_ne ha] at e
    rcases layT_cases e with e | ⟨c, hc, rfl⟩
    · exact (I.hok a o e).stay (fun b u _ q => k b u q) (fun b q => ext q) fun b xs q => ext q
    · obtain ⟨z1, us, z2, z3⟩ := ok (a, c) hc
      exact ⟨z1, us, z2, z3⟩
open Evl
def kListZ (K : PySem.W.Frag) (a b : Addr) (H1 : Hp) (Q : VK) : Prop := ∃ xs ys : List V, SqT K H1 a xs ∧ SqT K H1 b ys ∧ xs.length = ys.length ∧ 0 < xs.length ∧ xs.length ≤ 100000 ∧ ∀ q us H2, Ex H1 H2 → H1 q = none → H2 q = some (.lst us) → us.length = xs.length → (∀ (i : Nat) (x y : V), xs[i]? = some x → ys[i]? = some y → ∃ t, us[i]? = some (.ref t) ∧ H1 t = none ∧ H2 t = some (.tup [x, y])) → Q (.ref q) H2
section
variable {X : Cx} {p pos p2 pos2 : Pos} {e e2 : Expr} {ta : TA} {te : TE}
theorem rl_listZ {pins : List (Addr × Obj)} {s : Shared} {σ : L2.St} {H : Hp} {a b : Addr} {Q : VK} (hc : X.calm = true) (I : Inv X pins σ H s) (h : kListZ X.K a b H Q) :
    wpAny (model X.prog X.w) X.A (call (.type "zip") [.ref a, .ref b]) (fun v s1 => wpAny (model X.prog X.w) X.A (call (.type "list") [v]) (EP X pins σ Q) X.xe s1) X.xe s := by
  obtain ⟨xs, ys, ha, hb, hl, h0, hsz, q⟩ := h
  obtain ⟨us, ru, pu, _⟩ := I.tuple ha
  obtain ⟨vs, rv, pv, _⟩ := I.tuple hb
  have lu := ru.length
  have lv := rv.length
  have hz : xs.length ≤ sizeLine := by
    rw [sizeLine_eq]
    omega
  have pu' : s.heap.IsTuple a us.toArray := pu
  have pv' : s.heap.IsTuple b vs.toArray := pv
  obtain ⟨oa, ea, _⟩ := id pu'
  obtain ⟨ob, eb, _⟩ := id pv'
  refine RZ.call_zipT pu' pv' fun h1 Z U O C G sz kp => ?_
  generalize hN : s.heap.objs.size = N at Z U O C G sz
  refine zl_list (A := X.A) (b0 := s.heap) (s := { s with heap := h1 }) (xs := us) (ys := vs) (I.ok.hd hc) (PySem.W.ktu_apart N a b (hN ▸ Heap.lt_size ea) (hN ▸ Heap.lt_size eb)) pu' pv' (by omega) (by omega) (by omega) (fun c hc => ?_) (by show s.heap.objs.size ≤ h1.objs.size; omega) kp Z U O C G fun h2 ts lt st => ?_
  · rw [hN]
    show N ≤ c ∧ c < h1.objs.size
    rw [sz]
    simp only [List.mem_cons, List.not_mem_nil, or_false] at hc
    rcases hc with e | e | e | e | e <;> rw [e] <;> exact ⟨by show N ≤ _; omega, by show _ < N + 5; omega⟩
  · have hN1 : ({ s with heap := h1 } : Shared).heap.objs.size = N + 5 := sz
    rw [hN1] at st lt ⊢
    have tl := st.len
    obtain ⟨n, hlst⟩ := st.lst
    let l : List (Addr × List V) := (List.range xs.length).map fun i => (ts.getD i 0, [xs.getD i .non, ys.getD i .non])
    have lmem : ∀ p ∈ l, ∃ i, i < xs.length ∧ p = (ts.getD i 0, [xs.getD i .non, ys.getD i .non]) := fun p hp => by
      obtain ⟨i, hi, rfl⟩ := List.mem_map.mp hp
      exact ⟨i, List.mem_range.mp hi, rfl⟩
    have tget : ∀ {i : Nat}, i < xs.length → ts[i]? = some (ts.getD i 0) := fun {i} hi => by
      rw [List.getD_eq_getElem?_getD, List.getElem?_eq_getElem (by omega)]
      rfl
    have lts : l.map (·.1) = ts := by
      refine List.ext_getElem? fun i => ?_
      rw [List.getElem?_map, List.getElem?_map]
      by_cases hi : i < xs.length
      · rw [List.getElem?_range hi, tget hi]
        rfl
      · rw [List.getElem?_eq_none (by rw [List.length_range]; omega), List.getElem?_eq_none (by omega)]
        rfl
    have I2 := Inv.many (h' := h2) (l := l) (S := N + 5) (vs := ts.map V.ref) (its := ts.map Value.ref) I st.keep (fun p hp => ?_) (by rw [lts]; exact st.nd) (by rw [hN]; exact Nat.le_add_right ..) (fun p hp => ?_) (by rw [List.length_map]; omega) ?_ hlst
    · refine ⟨.ref (N + 5), _, I2, rfl, q (N + 5) (ts.map V.ref) _ (fun c o ec => ?_) (I.hok.fresh (by rw [hN]; exact Nat.le_add_right ..)) upd_same (by rw [List.length_map]; omega) fun i x y ex ey => ?_⟩
      · have z := I.hok.lt ec
        have n1 : c ≠ N + 5 := fun y => by
          rw [y, hN] at z
          exact absurd z (Nat.not_lt.mpr (Nat.le_add_right ..))
        have n2 : ∀ p ∈ l, p.1 ≠ c := fun p hp y => by
          obtain ⟨i, hi, rfl⟩ := lmem p hp
          have := (st.new _ (List.mem_of_getElem? (tget hi))).1
          rw [← y] at z
          exact absurd z (Nat.not_lt.mpr this)
        rw [upd_ne n1, layT_none n2]
        exact ec
      · have hi := (List.getElem?_eq_some_iff.mp ex).1
        have nw := st.new _ (List.mem_of_getElem? (tget hi))
        refine ⟨ts.getD i 0, by rw [List.getElem?_map, tget hi]; rfl, I.hok.fresh nw.1, ?_⟩
        rw [upd_ne fun y => nw.2.2 (by rw [y]; exact List.mem_cons_self)]
        refine layT_at (by rw [lts]; exact st.nd) (List.mem_map.mpr ⟨i, List.mem_range.mpr hi, ?_⟩)
        rw [List.getD_eq_getElem?_getD (l := xs), List.getD_eq_getElem?_getD (l := ys), ex, ey]
        rfl
    · obtain ⟨i, hi, rfl⟩ := lmem p hp
      have nw := st.new _ (List.mem_of_getElem? (tget hi))
      exact ⟨nw.1, fun y => nw.2.2 (by rw [← y]; exact List.mem_cons_self)⟩
    · obtain ⟨i, hi, rfl⟩ := lmem p hp
      have gx : xs[i]? = some (xs.getD i .non) := by
        rw [List.getD_eq_getElem?_getD, List.getElem?_eq_getElem hi]
        rfl
      have gy : ys[i]? = some (ys.getD i .non) := by
        rw [List.getD_eq_getElem?_getD, List.getElem?_eq_getElem (by omega)]
        rfl
      obtain ⟨u, hu, r1⟩ := ru.get gx
      obtain ⟨v, hv, r2⟩ := rv.get gy
      exact ⟨by show 2 ≤ sizeLine; decide, [u, v], .cons r1 (.cons r2 .nil), ⟨_, st.at_ i _ u v (tget hi) hu hv, rfl, _, rfl⟩⟩
    · exact vals_of_at (by rw [List.length_map, List.length_map]) fun j x u e1 e2 => by
        rw [List.getElem?_map] at e1 e2
        cases hj : ts[j]? with
        | none => rw [hj] at e1; cases e1
        | some t =>
          rw [hj] at e1 e2
          cases e1
          cases e2
          rfl
def tListZ (K : PySem.W.Frag) (ta : TA) : TE := fun σ H Q => ta σ H fun vs H1 => ∃ a b, vs = [.ref a, .ref b] ∧ kListZ K a b H1 Q
theorem pe_listZ (hc : X.calm = true) (hg : Gl X "list") (hm : X.mg "list" = none) (hg2 : Gl X "zip") (hm2 : X.mg "zip" = none) (ha : PA X [e, e2] ta)
    (na : starEach [.Call (.Name "zip" p2) [e, e2] [] pos2] X.env = (false, eval (.Call (.Name "zip" p2) [e, e2] [] pos2) X.env) :: starEach [] X.env := by rfl) (hs : starEach [e, e2] X.env = (false, eval e X.env) :: starEach [e2] X.env := by rfl) (hpl : (backTo pos2 (starEach [e2] X.env)).any (·.1) = false := by rfl) :
    PE X (.Call (.Name "list" p) [.Call (.Name "zip" p2) [e, e2] [] pos2] [] pos) (tListZ X.K ta) := by
  refine ⟨fun pins s σ H Q I h => ?_⟩
  refine Call_ (ld_blt I hg hm boot_list (PyProof.Rows.callWith_type1 (args_cons (Call_ (ld_blt I hg2 hm2 PyProof.Rows.boot_zip (PyProof.Rows.callWith_type1 (thn (ha.run pos2 pins s σ H _ I h) fun us s1 ⟨vs, H1, I1, r1, q1⟩ => ?_) hs hpl))) na) na))
  obtain ⟨a, b, rfl, q⟩ := q1
  cases r1 with
  | cons r rr =>
    cases rr with
    | cons r' rr =>
      cases rr
      cases r
      cases r'
      exact thn (rl_listZ hc I1 q) fun v s2 h2 => args_nil h2
def tListZS (K : PySem.W.Frag) (te : TE) : TE := fun σ H Q => te σ H fun x H1 => ∃ l a b, x = .ref l ∧ SqL K H1 l [.ref a, .ref b] ∧ kListZ K a b H1 Q
theorem pe_listZS (hc : X.calm = true) (hg : Gl X "list") (hm : X.mg "list" = none) (hg2 : Gl X "zip") (hm2 : X.mg "zip" = none) (he : PE X e te) {sp_ : Pos}
    (na : starEach [.Call (.Name "zip" p2) [.Starred e sp_] [] pos2] X.env = (false, eval (.Call (.Name "zip" p2) [.Starred e sp_] [] pos2) X.env) :: starEach [] X.env := by rfl) (hst : starEach [.Starred e sp_] X.env = [(true, eval e X.env)] := by rfl) :
    PE X (.Call (.Name "list" p) [.Call (.Name "zip" p2) [.Starred e sp_] [] pos2] [] pos) (tListZS X.K te) := by
  refine ⟨fun pins s σ H Q I h => ?_⟩
  refine Call_ (ld_blt I hg hm boot_list (PyProof.Rows.callWith_type1 (args_cons (Call_ (ld_blt I hg2 hm2 PyProof.Rows.boot_zip ?_)) na) na))
  rw [hst]
  refine PySem.W.ks_call (P := fun _ => True) rfl (fun _ _ => ⟨.machine, .inr (.inl rfl), PySem.W.Looks.of_pure rfl⟩) (PySem.W.ks_lone (thn (he.run pins s σ H _ I h) fun v s1 ⟨y, H1, I1, ry, q1⟩ => ?_))
  obtain ⟨l, a, b, rfl, hl, q⟩ := q1
  obtain rfl : v = Value.ref l := ry
  refine StX.star_any I1 (.inr hl) fun us s2 I2 rv => ⟨trivial, ?_⟩
  cases rv with
  | cons r rr =>
    cases rr with
    | cons r' rr =>
      cases rr
      cases r
      cases r'
      exact thn (rl_listZ hc I2 q) fun v s3 h3 => args_nil h3
end
end Eyes

set_option Elab.async false
set_option linter.all false
set_option maxRecDepth 100000
set_option maxHeartbeats 4000000
/-! (x, ..) * 1 is the tuple itself. -/
namespace Eyes
open PySem PySem.Spec PyProof.Rows L2
theorem tuple_mul1 (l : Addr) (items : Array Value) (n : Nat) (dd : Option Addr) (sl : Array (Option Value)) (u : Tok) :
    Meets (Builtin.«tuple.__mul__» ⟨[.ref l, .int 1 u], []⟩) (fun _ R s => s.heap.get? l = some { cls := .type "tuple", dict := dd, data := .seq items n, slots := sl } ∧ R (.ok (.ret (Value.ref l))) s) :=
  .of_wp fun prog w A R s h => by
    obtain ⟨hp, g, d, tk, os⟩ := s
    obtain ⟨hl, h⟩ := h
    have f1 := AutoSeq1.idx_int
    have c1 : (items.isEmpty || (1 : Int) == 1) = true := by simp
    wp_walk using wpAny_loadPart' hl
    all_goals exact ⟨_, rfl, h⟩
def rRep1 (K : PySem.W.Frag) : R2 := fun x y H Q => ∃ l xs, x = .ref l ∧ y = .int 1 ∧ SqT K H l xs ∧ Q (.ref l) H
section
variable {X : Cx}
theorem op_rep1 : OpR X (binaryOp .Mult) (rRep1 X.K) := by
  intro pins s σ H x y v u Q I rx ry h
  obtain ⟨l, xs, rfl, rfl, hT, q⟩ := h
  cases rx
  obtain ⟨t, rfl⟩ := ry
  obtain ⟨its, r, ⟨⟨cls, dd, data, sl⟩, ho, hc, n, hd⟩, hs⟩ := I.tuple hT
  simp only at hc hd
  subst hc hd
  exact wpAny_binaryOp_repeat_ref (T := "tuple") (U := "int") (by decide) ⟨_, ho, rfl⟩ (fun s' => typeIs_int s' 1 t) noFill_tuple_mul F.fills_int_mul F.slot_int_rmul repeat_tuple F.slot_int_index.lookup
    (call_meets F.slot_int_rmul (typeIs_int s 1 t) F.entry_int_rmul (F.args_int_rmul_2 _ _) (int_rmul_tuple 1 t l its.toArray n dd sl)
      ⟨ho, rfl, ⟨_, ho, rfl⟩, call_meets F.slot_tuple_mul ⟨_, ho, rfl⟩ F.entry_tuple_mul (F.args_tuple_mul_2 _ _) (tuple_mul1 l its.toArray n dd sl t) ⟨ho, .ref l, H, I, rfl, q⟩⟩)
theorem call_tuple_ofK {K : PySem.W.Frag} (hK : X.K = K) : CallR X (.type "tuple") (fun xs H Q => ∃ p ys, xs = [V.ref p] ∧ ((SqL K H p ys ∧ ∀ (l : Addr), H l = none → Q (V.ref l) (upd H l (HO.tup ys))) ∨ SqT K H p ys ∧ Q (V.ref p) H)) := hK ▸ call_tuple_of
end
end Eyes

set_option Elab.async false
set_option linter.all false
set_option maxRecDepth 100000
set_option maxHeartbeats 8000000
/-! sorted(set(xs)), xs a list of numbers. -/
namespace Eyes
open PySem PySem.Spec PyProof.Rows L2
theorem ints_at : ∀ {us : List Value} {ks : List Int}, IntsAre us ks → ∀ {j : Nat} {v : Value}, us[j]? = some v → ∃ (k : Int) (t : Tok), ks[j]? = some k ∧ v = .int k t
  | _, _, .nil, _, _, e => by cases e
  | _, _, .cons k t r, 0, v, e => ⟨k, t, rfl, (Option.some.inj e).symm⟩
  | _, _, .cons k t r, j + 1, v, e => ints_at r (j := j) e
section
variable {P : Program} {w : World} {A : Around} {E : Value → Shared → Prop} {s : Shared}
theorem call_setI {l : Addr} {items : Array Value} {xs : List Int} {Q : Value → Shared → Prop} (hh : A.handled = none) (hl : s.heap.IsList l items) (hi : IntsAre items.toList xs) (hb : items.size + 1 < scanBound)
    (q : ∀ (h' : Heap) (tk c : Nat), SetR w h' s.heap.objs.size (fun j => decide (j ∈ xs)) c → c ≤ items.size → (∀ b o, b < s.heap.objs.size → s.heap.get? b = some o → h'.get? b = some o) → Q (.ref s.heap.objs.size) { s with heap := h', toks := tk }) :
    wpAny (model P w) A (call (.type "set") [.ref l]) Q E s := by
  obtain ⟨c, tl, hmro⟩ := PySem.F.called_set.mro
  have m1 := PySem.F.called_set.made; have m2 := PySem.F.called_set.sub
  refine wpAny_call (codeAny_of_tree ?_)
  show wpAny _ _ (callAny (.type "set") _) _ _ _
  refine wpAny_pure ⟨Code.quiet_builtin _ (by decide +kernel), codeAny_builtin F.entry_type_call ?_⟩
  rw [Around.under_plain (weight_type_call_type "set" [.ref l] []) rfl]
  have m3 := PySem.F.called_set.notType; have m4 := PySem.F.called_set.canCreate; have m5 := PySem.F.typeCall_set_1 (.ref l)
  repeat (any_goals (first | assumption | wp_step))
  refine codeAny_mono (new_set1 (.ref l) (E := E) (Q1 := fun ob s₁ => ob = .ref s.heap.objs.size ∧ s₁ = { s with heap := s.heap.push (noSet w) }) ⟨rfl, rfl⟩) fun r s₁ hr => ?_
  cases r with
  | error e => exact hr
  | ok fl =>
    cases fl with
    | ret ob =>
      obtain ⟨rfl, rfl⟩ := hr
      have hS : (s.heap.push (noSet w)).get? s.heap.objs.size = some (noSet w) := Heap.get?_push_size _ rfl
      have hT : Shared.TypeIs { s with heap := s.heap.push (noSet w) } (.ref s.heap.objs.size) "set" := ⟨_, hS, rfl⟩
      have n1 := PySem.F.called_set.init.lookup; have n2 := PySem.F.called_set.init.bind (.ref s.heap.objs.size)
      repeat (any_goals (first | assumption | wp_step))
      refine codeAny_mono (codeAny_call_builtin (R := wants (fun r s₂ => r = .none ∧ ∃ h' tk c, s₂ = { s with heap := h', toks := tk } ∧ SetR w h' s.heap.objs.size (fun j => decide (j ∈ xs)) c ∧ c ≤ items.size ∧
          (∀ b o, b < s.heap.objs.size → s.heap.get? b = some o → h'.get? b = some o)) E) PySem.F.called_set.init.plain PySem.F.entry_set_init (check_set_init_1 hT ?_)) fun r₂ s₂ hr₂ => ?_
      · obtain ⟨ol, hol, hcl, nl, hdl⟩ := hl
        obtain ⟨oc, od, odt, osl⟩ := ol
        simp only at hcl hdl
        subst hcl
        subst hdl
        have at1 : (s.heap.push (noSet w)).get? l = some { cls := .type "list", dict := od, data := .seq items nl, slots := osl } := Heap.get?_push_of_some _ hol
        have f1 := PySem.F.sub_list_set; have f2 := PySem.F.sub_list_frozenset
        have f3 : (Value.type "list" == Value.type "dict") = false := by decide
        have isL : (s.heap.push (noSet w)).IsList l items := ⟨_, at1, rfl, nl, rfl⟩
        unfold Builtin.«set.__init__» noKeywords Builtin.Frozenset.updateFrom
        generalize hPI : pyIter = PI
        wp_walk
        subst hPI
        refine wpAny_pyIter_list isL (wpAny_bind (wpAny_runValue ?_))
        have lS : l < s.heap.objs.size := Heap.lt_size hol
        have hh3 : A.in1.in1.in1.handled = none := by simp [hh]
        have neI : l ≠ (s.heap.push (noSet w)).objs.size := by
          rw [Heap.size_push]
          exact Nat.ne_of_lt (Nat.lt_succ_of_lt lS)
        have nin : s.heap.objs.size ∉ [(s.heap.push (noSet w)).objs.size, l] := by
          rw [Heap.size_push]
          simp only [List.mem_cons, List.mem_singleton, List.not_mem_nil, or_false, not_or]
          exact ⟨Nat.ne_of_lt (Nat.lt_succ_self _), Nat.ne_of_gt lS⟩
        have len : xs.length = items.size := by
          have z := IntsAre.length hi
          rw [Array.length_toList] at z
          exact z.symm
        have val : ∀ (i : Nat) (v : Value), items[i]? = some v → ∃ z t, xs[i]? = some z ∧ v = .int z t := fun i v hv => by
          obtain ⟨k, t, e1, e2⟩ := ints_at hi (by rw [Array.getElem?_toList]; exact hv)
          exact ⟨k, t, e1, e2⟩
        refine set_update_ints ((Walks.list hh3 _ l neI items).toS) s.heap.objs.size nin xs len.symm (by rw [len]; exact hb) val (items.size - 0) 0 _ (by omega) (Nat.zero_le _)
          ⟨⟨_, Heap.get?_push_size _ rfl, rfl, rfl⟩, (isL.push _)⟩ ⟨0, Nat.le_refl _, setR_new_at (Heap.get?_push_of_some _ hS)⟩ fun s' cc hm lL T => ?_
        obtain ⟨h', g', d', tk', os'⟩ := s'
        obtain rfl : g' = s.gens := hm.gens
        obtain rfl : d' = s.drawn := hm.drawn
        obtain rfl : os' = s.os := hm.os
        show wpAny _ _ _ _ _ _
        refine wpAny_pure ?_
        show wpAny _ _ (ret Value.none) _ _ _
        refine wpAny_pure ⟨rfl, h', tk', cc, rfl, T, lL, fun b o hb e => ?_⟩
        refine hm.heap b o ?_ (Heap.get?_push_of_some _ (Heap.get?_push_of_some _ e))
        rw [Heap.size_push]
        simp only [List.mem_cons, List.mem_singleton, List.not_mem_nil, or_false, not_or]
        exact ⟨Nat.ne_of_lt hb, Nat.ne_of_lt (Nat.lt_succ_of_lt hb)⟩
      · cases r₂ with
        | error e => exact hr₂
        | ok fl₂ =>
          cases fl₂ with
          | ret r =>
            obtain ⟨rfl, h', tk, cc, rfl, T, lL, kp⟩ := hr₂
            repeat (any_goals (first | assumption | wp_step))
            exact q _ _ _ T lL kp
          | _ => exact hr₂.elim
    | _ => exact hr.elim
end
def tSortedSetI (K : PySem.W.Frag) (te : TE) : TE := fun σ H Q => te σ H fun x H1 => ∃ (a : Addr) (xs : List Int), x = .ref a ∧ SqL K H1 a (xs.map V.int) ∧ xs.length < 64 ∧
  ∀ (ys : List Int) (p : Addr), ys.Pairwise (· < ·) → (∀ y, y ∈ ys ↔ y ∈ xs) → ys.length ≤ xs.length → H1 p = none → Q (.ref p) (upd H1 p (.lst (ys.map V.int)))
section
variable {X : Cx} {K : PySem.W.Frag} {e : Expr} {te : TE} {p1 p2 q1 q2 : Pos}
theorem pe_sortedSetI (hK : X.K = K) (hc : X.calm = true) (he : PE X e te) (hg1 : Gl X "sorted") (hm1 : X.mg "sorted" = none) (hg2 : Gl X "set") (hm2 : X.mg "set" = none)
    (hs : starEach [.Call (.Name "set" p2) [e] [] q2] X.env = (false, eval (.Call (.Name "set" p2) [e] [] q2) X.env) :: starEach [] X.env := by rfl)
    (hs2 : starEach [e] X.env = (false, eval e X.env) :: starEach [] X.env := by rfl) :
    PE X (.Call (.Name "sorted" p1) [.Call (.Name "set" p2) [e] [] q2] [] q1) (tSortedSetI K te) := by
  subst hK
  refine ⟨fun pins s σ H Q I h => ?_⟩
  refine wpAny_Call_Name_kw (ld_blt I hg1 hm1 PyProof.Rows.boot_sorted ?_)
  refine PyProof.Rows.callWith_builtin1 ?_ hs rfl
  rw [hs]
  refine Calls.spliced_cons ?_
  refine wpAny_Call_Name_kw (ld_blt I hg2 hm2 PyProof.Rows.boot_set ?_)
  refine PyProof.Rows.callWith_type1 ?_ hs2 rfl
  rw [hs2]
  refine Calls.spliced_cons (thn (he.run pins s σ H _ I h) fun u s1 ⟨x, H1, I1, rx, a, xs, ex, hl, hz, q⟩ => ?_)
  subst ex
  obtain rfl : u = Value.ref a := rx
  obtain ⟨its, rv, pl, _⟩ := I1.list hl
  have lx : xs.length = its.length := by
    have y := rv.length
    rw [List.length_map] at y
    exact y
  refine Calls.spliced_nil ?_
  have cm := I1.ok.hd hc
  refine call_setI cm pl.isList (xs := xs) (by simpa using rv.ints) (by rw [List.size_toArray, show scanBound = 4096 from rfl]; omega) fun h' tk cc T lL kp => ?_
  refine Calls.spliced_nil ?_
  have k1 : ∀ b o, s1.heap.get? b = some o → h'.get? b = some o := fun b o e => kp b o (Heap.lt_size e) e
  have nn : s1.heap.objs.size ≤ h'.objs.size := Nat.le_of_lt T.lt
  rw [List.size_toArray] at lL
  refine sorted_set (s := { s1 with heap := h', toks := tk }) T cm (by omega) fun s2 p out c ys k2 g2 o2 hp2 ho2 st so mm ll => ?_
  have kk : ∀ b o, s1.heap.get? b = some o → s2.heap.get? b = some o := fun b o e => k2 b o (k1 b o e)
  have np : s1.heap.objs.size ≤ p := Nat.le_trans nn hp2
  have fr : H1 p = none := I1.hok.fresh np
  have ly : (ys.map V.int).length ≤ sizeLine := by
    rw [List.length_map, ll, sizeLine_eq]
    omega
  have J : Inv X pins σ (upd H1 p (.lst (ys.map V.int))) { s1 with heap := s2.heap, gens := s2.gens, drawn := s2.drawn, toks := s2.toks } :=
    I1.call (ch := []) (Un.laid kk np fr) (I1.hok.laid kk np ⟨ly, out.toList, c, vals_of_ints st, ho2⟩) (by rw [g2]; exact I1.bare) (fun _ y => nomatch y)
  have es : s2 = { s1 with heap := s2.heap, gens := s2.gens, drawn := s2.drawn, toks := s2.toks } := by
    cases s2
    cases s1
    cases o2
    rfl
  rw [es]
  exact ⟨.ref p, _, J, rfl, q ys p so (fun y => by rw [mm]; exact decide_eq_true_iff) (by omega) fr⟩
end
end Eyes

set_option Elab.async false
set_option linter.all false
set_option maxRecDepth 100000
/-! Joining: row by row is as all at once. -/
namespace Eyes
open PySem PySem.Spec PyProof.Rows L2
theorem mrgs_app (p : List Nat) (l k : List (Nat × Nat)) : mrgs p (l ++ k) = mrgs (mrgs p l) k := by
  unfold mrgs
  rw [List.foldl_append]
theorem mrg1_self (p : List Nat) (x : Nat) : mrg1 p x x = p := by
  unfold mrg1
  refine (List.map_congr_left fun z _ => ?_).trans (List.map_id p)
  by_cases g : z = max (itm p x) (itm p x)
  · rw [if_pos g, g]
    show min (itm p x) (itm p x) = max (itm p x) (itm p x)
    omega
  · rw [if_neg g]
    rfl
theorem mrgs_some {f : Nat × Nat → Bool} : ∀ {l : List (Nat × Nat)} {p : List Nat}, (∀ xy ∈ l, f xy = false → xy.1 = xy.2) → mrgs p (l.filter f) = mrgs p l
  | [], p, _ => rfl
  | xy :: l, p, h => by
    have ih := mrgs_some (f := f) (l := l) (p := mrg1 p xy.1 xy.2) fun z hz => h z (List.mem_cons_of_mem _ hz)
    cases hf : f xy with
    | true =>
      rw [List.filter_cons_of_pos hf]
      exact ih
    | false =>
      have e := h xy List.mem_cons_self hf
      have e2 : mrg1 p xy.1 xy.2 = p := by rw [e]; exact mrg1_self p _
      rw [List.filter_cons_of_neg (by rw [hf]; decide)]
      rw [e2] at ih
      rw [ih]
      show _ = mrgs (mrg1 p xy.1 xy.2) l
      rw [e2]
theorem numd_mem {n : Nat} {q : List Nat} {xy : Nat × Nat} (h : xy ∈ numd n q) : 1 ≤ xy.1 ∧ xy.1 ≤ n ∧ xy.2 = itm q xy.1 := by
  unfold numd at h
  obtain ⟨k, hk, rfl⟩ := List.mem_map.mp h
  have := List.mem_range.mp hk
  exact ⟨by omega, by omega, rfl⟩
theorem mem_numd {n : Nat} {q : List Nat} {x : Nat} (h1 : 1 ≤ x) (h2 : x ≤ n) : (x, itm q x) ∈ numd n q := by
  unfold numd
  refine List.mem_map.mpr ⟨x - 1, List.mem_range.mpr (by omega), ?_⟩
  rw [show x - 1 + 1 = x by omega]
theorem mrgs_less {n : Nat} {p q : List Nat} (hq : IsP n q) : mrgs p (less n q) = mrgs p (numd n q) :=
  mrgs_some fun xy hxy hf => by
    obtain ⟨h1, h2, h3⟩ := numd_mem hxy
    have h4 := hq.lo xy.1 h1 h2
    have h5 : ¬ xy.2 < xy.1 := of_decide_eq_false hf
    omega
theorem joined_fold {n : Nat} {p : List Nat} : ∀ {l : List (List Nat)}, (∀ q ∈ l, IsP n q) → mrgs p (l.flatMap (less n)) = l.foldl (fun f q => mrgs f (numd n q)) p
  | [], _ => rfl
  | q :: l, h => by
    rw [List.flatMap_cons, mrgs_app, mrgs_less (h q List.mem_cons_self)]
    exact joined_fold fun z hz => h z (List.mem_cons_of_mem _ hz)
theorem joined_one {n : Nat} {p : List Nat} (h : IsP n p) : mrgs (alone n) (numd n p) = p := by
  refine mrgs_same (l := numd n p) (k := []) (isP_alone n) h (numd_in h) (fun z hz => by cases hz) (fun u v h1 h2 h3 h4 e => ?_) (fun xy hxy => ?_) (fun u v h1 h2 h3 h4 e => ?_) (fun z hz => by cases hz)
  · unfold ali at e ⊢
    rw [itm_alone h1 h2, itm_alone h3 h4] at e
    rw [e]
  · obtain ⟨h1, h2, h3⟩ := numd_mem hxy
    unfold ali
    rw [h3]
    exact (h.rt _ h1 h2).symm
  · have a := mrgs_joins (isP_alone n) (numd_in h) (mem_numd (q := p) h1 h2)
    have b := mrgs_joins (isP_alone n) (numd_in h) (mem_numd (q := p) h3 h4)
    unfold ali at a b ⊢
    have e : itm p u = itm p v := e
    rw [a, b]
    show itm _ (itm p u) = itm _ (itm p v)
    rw [e]
theorem joined_cons {n : Nat} {p : List Nat} {l : List (List Nat)} (hp : IsP n p) (h : ∀ q ∈ l, IsP n q) : mrgs (alone n) ((p :: l).flatMap (less n)) = l.foldl (fun f q => mrgs f (numd n q)) p := by
  rw [joined_fold fun z hz => by
    rcases List.mem_cons.mp hz with rfl | hz
    · exact hp
    · exact h z hz]
  show l.foldl _ (mrgs (alone n) (numd n p)) = _
  rw [joined_one hp]
theorem joined_isP {n : Nat} {p : List Nat} {l : List (List Nat)} (hp : IsP n p) (h : ∀ q ∈ l, IsP n q) : IsP n (l.foldl (fun f q => mrgs f (numd n q)) p) := by
  induction l generalizing p with
  | nil => exact hp
  | cons q l ih => exact ih (isP_mrgs hp (numd_in (h q List.mem_cons_self))) fun z hz => h z (List.mem_cons_of_mem _ hz)
end Eyes

set_option Elab.async false
set_option linter.all false
set_option maxRecDepth 100000
/-! What is_parting takes for a parting is one. -/
namespace Eyes
open PySem PySem.Spec PyProof.Rows L2
def ndats (p : List Nat) : List PyData := p.map fun x : Nat => PyData.int (x : Int)
theorem ndats_get {p : List Nat} {i x : Nat} (h : p[i]? = some x) : (ndats p)[i]? = some (.int (x : Int)) := by
  unfold ndats
  rw [List.getElem?_map, h]
  rfl
theorem reps_ndats {H : Hp} : ∀ p : List Nat, Reps H (nvs p) (ndats p)
  | [] => .nil
  | _ :: p => .cons (.int _) (reps_ndats p)
theorem shaped_ndats {p : List Nat} : ∀ e ∈ ndats p, SeqAt.shaped e = true := fun e he => by
  obtain ⟨x, _, rfl⟩ := List.mem_map.mp he
  rfl
theorem eqv_int {i j : Int} : PyData.eqv (.int i) (.int j) = decide (i = j) := by
  show (i == j) = decide (i = j)
  rw [Bool.eq_iff_iff]
  simp
theorem partD_of {n : Nat} {p : List Nat} (h : IsP n p) (h1 : 1 ≤ n) : partD (.tuple (ndats p)) = true := by
  show (decide (ndats p ≠ []) && (List.range (ndats p).length).all fun k => itemD (ndats p) k) = true
  have hl : (ndats p).length = n := by
    unfold ndats
    rw [List.length_map]
    exact h.len
  rw [Bool.and_eq_true, hl, List.all_eq_true]
  refine ⟨decide_eq_true fun z => by rw [z] at hl; simp at hl; omega, fun k hk => ?_⟩
  have hk := List.mem_range.mp hk
  have lo := h.lo (k + 1) (by omega) (by omega)
  have g := ndats_get (itm_get (p := p) (x := k + 1) (by omega) (by rw [h.len]; omega))
  rw [Nat.add_sub_cancel] at g
  have g2 := ndats_get (itm_get (p := p) (x := itm p (k + 1)) lo.1 (by rw [h.len]; omega))
  have e : (((itm p (k + 1) : Nat) : Int) - 1).toNat = itm p (k + 1) - 1 := by omega
  rw [itemD_int g (by
    show (decide ((1 : Int) ≤ (itm p (k + 1) : Nat)) && decide (((itm p (k + 1) : Nat) : Int) ≤ (k : Int) + 1)) = true
    rw [Bool.and_eq_true]
    exact ⟨decide_eq_true (by omega), decide_eq_true (by omega)⟩) (e := .int (itm p (itm p (k + 1)) : Nat)) (by rw [e]; exact g2), eqv_int, h.rt (k + 1) (by omega) (by omega)]
  exact decide_eq_true rfl
theorem partD_isP {d : PyData} (h : partD d = true) : ∃ p, d = .tuple (ndats p) ∧ 1 ≤ p.length ∧ IsP p.length p := by
  cases d with
  | tuple ds =>
    have h : (decide (ds ≠ []) && (List.range ds.length).all fun k => itemD ds k) = true := h
    rw [Bool.and_eq_true, List.all_eq_true] at h
    obtain ⟨h0, h⟩ := h
    have h0 : ds ≠ [] := of_decide_eq_true h0
    have one : ∀ k, k < ds.length → ∃ x : Nat, ds[k]? = some (.int (x : Int)) ∧ 1 ≤ x ∧ x ≤ k + 1 ∧ ∃ e, ds[x - 1]? = some e ∧ PyData.eqv e (.int (x : Int)) = true := fun k hk => by
      have hi := h k (List.mem_range.mpr hk)
      have hd : ds[k]? = some ds[k] := List.getElem?_eq_getElem hk
      generalize ds[k] = d at hd
      cases hn : numD d 1 ((k : Int) + 1) with
      | false =>
        rw [itemD_no hd hn] at hi
        cases hi
      | true =>
        cases d with
        | int i =>
          have h2 : (decide (1 ≤ i) && decide (i ≤ (k : Int) + 1)) = true := hn
          rw [Bool.and_eq_true] at h2
          have a1 := of_decide_eq_true h2.1
          have a2 := of_decide_eq_true h2.2
          have he : ds[(i - 1).toNat]? = some (ds[(i - 1).toNat]'(by omega)) := List.getElem?_eq_getElem _
          rw [itemD_int hd hn he] at hi
          refine ⟨i.toNat, by rw [hd, show ((i.toNat : Nat) : Int) = i by omega], by omega, by omega, _, by rw [show i.toNat - 1 = (i - 1).toNat by omega]; exact he, by rw [show ((i.toNat : Nat) : Int) = i by omega]; exact hi⟩
        | _ => cases hn
    have ex : ∃ p : List Nat, ds = ndats p := by
      refine ⟨ds.map fun d => match d with | .int i => i.toNat | _ => 0, ?_⟩
      unfold ndats
      rw [List.map_map]
      refine List.ext_getElem? fun k => ?_
      rw [List.getElem?_map]
      by_cases hk : k < ds.length
      · obtain ⟨x, hx, _⟩ := one k hk
        rw [hx]
        show _ = some (PyData.int (((x : Int).toNat : Nat) : Int))
        rw [show (((x : Int).toNat : Nat) : Int) = (x : Int) by omega]
      · rw [List.getElem?_eq_none (by omega)]
        rfl
    obtain ⟨p, rfl⟩ := ex
    have hl : (ndats p).length = p.length := List.length_map ..
    have two : ∀ x, 1 ≤ x → x ≤ p.length → 1 ≤ itm p x ∧ itm p x ≤ x ∧ itm p (itm p x) = itm p x := fun x h1 h2 => by
      obtain ⟨y, hy, y1, y2, e, he, hq⟩ := one (x - 1) (by rw [hl]; omega)
      have g := ndats_get (itm_get (p := p) (x := x) h1 h2)
      rw [g] at hy
      have hy := Option.some.inj hy
      injection hy with hy
      have hy : itm p x = y := Int.ofNat.inj hy
      subst hy
      have g2 := ndats_get (itm_get (p := p) (x := itm p x) y1 (by omega))
      rw [g2] at he
      obtain rfl := Option.some.inj he
      rw [eqv_int] at hq
      have hq := of_decide_eq_true hq
      exact ⟨y1, by omega, Int.ofNat.inj hq⟩
    refine ⟨p, rfl, ?_, rfl, fun x h1 h2 => ⟨(two x h1 h2).1, (two x h1 h2).2.1⟩, fun x h1 h2 => (two x h1 h2).2.2⟩
    cases p with
    | nil => exact absurd rfl h0
    | cons x p => exact Nat.succ_le_succ (Nat.zero_le _)
  | _ => cases h
end Eyes

set_option Elab.async false
set_option linter.all false
set_option maxRecDepth 100000
set_option maxHeartbeats 4000000
namespace Eyes
open PySem PySem.Spec PyProof.Rows L2 Evl TL
/-! ### met, together, judged pairs -/
def spTogether : Sp := fun vs H Q _ => ∃ n : Nat, vs = [.int n] ∧ 1 ≤ n ∧ n ≤ 1000 ∧ ∀ r H', Ex H H' → H r = none → H' r = some (.tup (nvs (List.replicate n 1))) → Q (.ref r) H'
theorem rep_nvs (n : Nat) : (List.replicate n [V.int 1]).flatten = nvs (List.replicate n 1) := by
  induction n with
  | zero => rfl
  | succ n ih =>
    rw [List.replicate_succ, List.flatten_cons, ih]
    rfl
theorem rep_tup {H : Hp} {a : Addr} {p : List Nat} (h : Rep H (.ref a) (.tuple (ndats p))) : H a = some (.tup (nvs p)) := by
  have key : ∀ (p : List Nat) (xs : List V), Reps H xs (ndats p) → xs = nvs p := fun p => by
    induction p with
    | nil => intro xs h; cases h; rfl
    | cons x p ih =>
      intro xs h
      cases h with
      | cons h1 h2 =>
        cases h1
        rw [ih _ h2]
        rfl
  cases h with
  | tup h1 h2 => rw [h1, key p _ h2]
theorem rep_of_nvs {H : Hp} {a : Addr} {p : List Nat} (h : H a = some (.tup (nvs p))) : Rep H (.ref a) (.tuple (ndats p)) := .tup h (reps_ndats p)
def keys2 (p q : List Nat) (n : Nat) : List (List L2.Key) := (List.range n).map fun k => [.inl (itm p (k + 1) : Int), .inl (itm q (k + 1) : Int)]
theorem keys2_met {n : Nat} {p q : List Nat} : firsts (keys2 p q n) = metN n [p, q] := by
  unfold metN
  refine firsts_same (by unfold keys2 keysN; rw [List.length_map, List.length_map]) fun i j a b c d ha hb hc hd => ?_
  unfold keys2 at ha hb
  unfold keysN at hc hd
  rw [List.getElem?_map] at ha hb hc hd
  obtain ⟨i1, hi, rfl⟩ := Option.map_eq_some_iff.mp ha
  obtain ⟨j1, hj, rfl⟩ := Option.map_eq_some_iff.mp hb
  rw [hi] at hc
  rw [hj] at hd
  obtain rfl := Option.some.inj hc
  obtain rfl := Option.some.inj hd
  simp
  omega
def spMet (K : PySem.W.Frag) : Sp := fun vs H Q _ => ∃ (n : Nat) (l a b : Addr) (p q : List Nat), vs = [.ref l] ∧ SqL K H l [.ref a, .ref b] ∧ SqT K H a (nvs p) ∧ SqT K H b (nvs q) ∧ IsP n p ∧ IsP n q ∧ 1 ≤ n ∧ n ≤ 4096 ∧ ∀ r H', Ex H H' → H r = none → H' r = some (.tup (nvs (metN n [p, q]))) → Q (.ref r) H'
def pairD (n : Nat) (d : PyData) : Bool := match d with
  | .tuple [a, b] => numD a 1 n && numD b 1 n
  | _ => false
section
variable {P : Program} {w : World} {K : PySem.W.Frag} {mg : Str → Option Value} {base : Heap} {AA : Adr}
theorem ok_together (T : Txt K mg AA) : Pr P w K mg base "together" s_together p_together 1 spTogether := by
  refine pr_mk T.f_together sc_together (fun vs H Q E h => ?_) (fun f cdv A outer s H vs Q E hr h => ?_)
  · obtain ⟨n, rfl, _⟩ := h
    rfl
  · obtain ⟨n, rfl, h1, h2, q⟩ := h
    refine ⟨_, (pss_one (ps_ret (pe_op (opR_or op_repT op_rep1) (pe_tup (pa_cons pe_int pa_nil)) (pv 0)))), ?_⟩
    refine ⟨by show 1 ≤ sizeLine; decide, fun t nt => ⟨_, rfl, ?_⟩⟩
    rcases Nat.lt_or_ge 1 n with h | h
    · refine .inl ⟨t, n, [.int 1], rfl, rfl, st_of upd_same, by simp, by omega, by omega, by show 1 ≤ 1000; decide, fun r nr => ?_⟩
      rw [show ((n : Nat) : Int).toNat = n by omega, rep_nvs]
      exact q r _ ((Ex.new nt).trans (Ex.new nr)) (fresh_back (Ex.new nt) nr) upd_same
    · obtain rfl : n = 1 := by omega
      exact .inr ⟨t, [.int 1], rfl, rfl, st_of upd_same, q t _ (Ex.new nt) nt upd_same⟩
theorem ok_met (T : Txt K mg AA) : Pr P w K mg base "met" s_met p_met 2 (spMet K) := by
  refine pr_mk T.f_met sc_met (fun vs H Q E h => ?_) (fun f cdv A outer s H vs Q E hr h => ?_)
  · obtain ⟨n, l, a, b, p, q, rfl, _⟩ := h
    rfl
  · obtain ⟨n, l, a, b, p, q, rfl, hl, ha, hb, hP, hQ, h1, hn, qq⟩ := h
    refine ⟨_, (pss_one (ps_ret (pcall (ok_by_keys T) hr (pa_cons (pe_listZS rfl (by rfl) T.n_list (by rfl) T.n_zip (pv 0)) pa_nil)))), ?_⟩
    refine ⟨_, rfl, l, a, b, rfl, hl, nvs p, nvs q, ha, hb, by rw [nvs_len, nvs_len, hP.len, hQ.len], by rw [nvs_len, hP.len]; omega, by rw [nvs_len, hP.len]; omega, fun z us H2 e2 nz hz hus hel => ?_⟩
    rw [nvs_len, hP.len] at hus
    have kl : (keys2 p q n).length = n := by unfold keys2; rw [List.length_map, List.length_range]
    refine ⟨z, us, keys2 p q n, rfl, sq_of hz, by rw [kl]; exact hus, by rw [kl]; exact hn, fun i u k hu hk => ?_, fun r H3 e3 nr hr3 => ?_⟩
    · have hi : i < n := by rw [← hus]; exact (List.getElem?_eq_some_iff.mp hu).1
      obtain ⟨t, ht, _, ht2⟩ := hel i _ _ (nvs_get (itm_get (x := i + 1) (by omega) (by rw [hP.len]; omega))) (nvs_get (itm_get (x := i + 1) (by omega) (by rw [hQ.len]; omega)))
      rw [hu] at ht
      obtain rfl := Option.some.inj ht
      unfold keys2 at hk
      rw [List.getElem?_map, List.getElem?_range hi] at hk
      obtain rfl := Option.some.inj hk
      exact ⟨t, rfl, ht2⟩
    · rw [keys2_met] at hr3
      exact qq r H3 (e2.trans e3) (fresh_back e2 nr) hr3
def spPair (K : PySem.W.Frag) : Sp := fun vs H Q _ => ∃ (v : V) (d : PyData) (n : Nat), vs = [v, .int n] ∧ Rep H v d ∧ ∀ H', Ex H H' → Q (.bl (pairD n d)) H'
theorem ok_is_pair (T : Txt K mg AA) : Pr P w K mg base "is_pair" s_is_pair p_is_pair 2 (spPair K) := by
  refine pr_mk T.f_is_pair sc_is_pair (fun vs H Q E h => ?_) (fun f cdv A outer s H vs Q E hr h => ?_)
  · obtain ⟨v, d, n, rfl, _⟩ := h
    rfl
  · obtain ⟨v, d, n, rfl, hv, q⟩ := h
    refine ⟨_, (pss_cons (ps_if (PW.pt (pw_or (pt_not (pt_val (pe_callB (call_isiK (K := K) rfl) (by rfl) T.n_isinstance PyProof.Rows.boot_isinstance (pa_cons (pv 0) (pa_cons (pe_bltn (v := .ty "tuple") (by rfl) T.n_tuple (by decide +kernel) rfl) pa_nil))))) (pw_or1 (pt_cmpR op_ne (pe_callB (call_len_seqK (K := K) rfl) (by rfl) T.n_len PySem.boot_len (pa_cons (pv 0) pa_nil)) pe_int (nomark _)))))
      (pss_one (ps_ret pe_bl))
      pss_nil)
      (pss_one (ps_ret (pe_and (pcall (ok_is_number T) hr (pa_cons (pe_ix (ix_tupK (K := K) rfl) (pv 0) pe_int (fun _ _ => rfl)) (pa_cons pe_int (pa_cons (pv 1) pa_nil)))) (pe_one (pcall (ok_is_number T) hr (pa_cons (pe_ix (ix_tupK (K := K) rfl) (pv 0) pe_int (fun _ _ => rfl)) (pa_cons pe_int (pa_cons (pv 1) pa_nil))))))))), ?_⟩
    cases d with
    | tuple ds =>
      cases hv with
      | @tup a xs _ hx hR =>
      have hlen := hR.length
      refine ⟨_, rfl, .ref a, .ty "tuple", _, _, true, rfl, .ty _, (Rep.tup hx hR).ty, kit_ty (a := "tuple") (by decide +kernel), _, rfl, iteF ?_⟩
      refine ⟨_, rfl, a, xs, rfl, .inr (st_of hx), rfl, _, rfl, ite2 (fun h0 => ?_) (fun h0 => ?_)⟩
      · have h2 : ds.length ≠ 2 := fun z => by
          rw [hlen, z] at h0
          cases h0
        have e : pairD n (.tuple ds) = false := by
          match ds, h2 with
          | [], _ => rfl
          | [_], _ => rfl
          | [_, _], h => exact absurd rfl h
          | _ :: _ :: _ :: _, _ => rfl
        rw [e] at q
        exact q H (Ex.refl _)
      · have h2 : xs.length = 2 := by
          have h3 : decide (V.int (xs.length : Int) = V.int 2) = true := by
            cases e : decide (V.int (xs.length : Int) = V.int 2) with
            | true => rfl
            | false => rw [e] at h0; exact absurd rfl h0
          have h4 := of_decide_eq_true h3
          injection h4 with h4
          omega
        cases hR with
        | nil => cases h2
        | @cons v1 vs d1 ds r1 r2 =>
          cases r2 with
          | nil => cases h2
          | @cons v2 vs2 d2 ds2 r2 r3 =>
            cases r3 with
            | cons r3 r4 => simp at h2
            | nil =>
              refine ⟨_, rfl, a, _, 0, v1, rfl, rfl, st_of hx, rfl, _, rfl, v1, d1, 1, n, rfl, r1, ?_⟩
              have q := q H (Ex.refl _)
              have e : pairD n (.tuple [d1, d2]) = (numD d1 1 n && numD d2 1 n) := rfl
              rw [e] at q
              cases hn : numD d1 1 n with
              | false =>
                rw [hn] at q
                exact ⟨_, rfl, iteF q⟩
              | true =>
                rw [hn, Bool.true_and] at q
                exact ⟨_, rfl, iteT ⟨_, rfl, a, _, 1, v2, rfl, rfl, st_of hx, rfl, _, rfl, v2, d2, 1, n, rfl, r2, q⟩⟩
    | none => exact ⟨_, rfl, v, .ty "tuple", _, _, false, rfl, .ty _, hv.ty, kit_ty (a := "NoneType") (by decide +kernel), _, rfl, iteT (iteT (q H (Ex.refl _)))⟩
    | bool z => exact ⟨_, rfl, v, .ty "tuple", _, _, false, rfl, .ty _, hv.ty, kit_ty (a := "bool") (by decide +kernel), _, rfl, iteT (iteT (q H (Ex.refl _)))⟩
    | int z => exact ⟨_, rfl, v, .ty "tuple", _, _, false, rfl, .ty _, hv.ty, kit_ty (a := "int") (by decide +kernel), _, rfl, iteT (iteT (q H (Ex.refl _)))⟩
    | str z => exact ⟨_, rfl, v, .ty "tuple", _, _, false, rfl, .ty _, hv.ty, kit_ty (a := "str") (by decide +kernel), _, rfl, iteT (iteT (q H (Ex.refl _)))⟩
    | list z => exact ⟨_, rfl, v, .ty "tuple", _, _, false, rfl, .ty _, hv.ty, kit_ty (a := "list") (by decide +kernel), _, rfl, iteT (iteT (q H (Ex.refl _)))⟩
    | dict z => exact ⟨_, rfl, v, .ty "tuple", _, _, false, rfl, .ty _, hv.ty, kit_ty (a := "dict") (by decide +kernel), _, rfl, iteT (iteT (q H (Ex.refl _)))⟩
def okV (d : PyData) : Prop := d.depth < 5 ∧ wid d ≤ 4096 ∧ PyData.canLay0 d = true
theorem layAll_mem : ∀ {ds : List PyData} {e : PyData}, PyData.canLayAll0 ds = true → e ∈ ds → PyData.canLay0 e = true
  | [], _, _, h => by cases h
  | x :: xs, e, h, he => by
    have h : (PyData.canLay0 x && PyData.canLayAll0 xs) = true := h
    rw [Bool.and_eq_true] at h
    rcases List.mem_cons.mp he with rfl | he
    · exact h.1
    · exact layAll_mem h.2 he
theorem okV.item {ds : List PyData} {e : PyData} (h : okV (.tuple ds) ∨ okV (.list ds)) (he : e ∈ ds) : okV e := by
  obtain ⟨i, hi⟩ := List.getElem?_of_mem he
  have a := depth_get hi
  have b := wid_get hi
  rcases h with ⟨h1, h2, h3⟩ | ⟨h1, h2, h3⟩
  all_goals
    simp only [PyData.depth] at h1
    simp only [wid] at h2
    exact ⟨by omega, by omega, layAll_mem h3 he⟩
theorem okV.shaped {d : PyData} (h : okV d) : SeqAt.shaped d = true := by
  unfold SeqAt.shaped
  rw [h.2.2, decide_eq_true (by have := h.1; omega)]
  rfl
theorem okV.part {ds : List PyData} (h : okV (.tuple ds)) : ds.length ≤ 4096 ∧ ∀ e ∈ ds, SeqAt.shaped e = true := by
  have h2 := h.2.1
  simp only [wid] at h2
  exact ⟨by omega, fun e he => (okV.item (.inl h) he).shaped⟩
def lenD (d : PyData) : Nat := match d with
  | .tuple ds => ds.length
  | _ => 0
def refP (v1 : V) (d1 : PyData) (v2 : V) (d2 : PyData) : Option V := if partD d1 = true then (if partD d2 = true ∧ lenD d1 = lenD d2 then none else some v2) else some v1
def spTwoP (AA : Adr) (good : Nat → List Nat → List Nat → Hp → VK → Prop) : Sp := fun vs H Q E => ∃ v1 d1 v2 d2, vs = [v1, v2] ∧ Rep H v1 d1 ∧ okV d1 ∧ Rep H v2 d2 ∧ okV d2 ∧
  ((∃ n p q, d1 = .tuple (ndats p) ∧ d2 = .tuple (ndats q) ∧ 1 ≤ n ∧ n ≤ 4096 ∧ IsP n p ∧ IsP n q ∧ good n p q H Q) ∨
    ∃ v, refP v1 d1 v2 d2 = some v ∧ ∀ d H', H d = none → Ex H H' → H' d = some (.xd [("value", v)]) → E (.ref AA.InvalidParting) (some d) H')
theorem ok_InvalidParting___init (T : Txt K mg AA) {f : Addr} {fd : FuncData} (F : Fun K "__init__" "InvalidParting.__init__" s_InvalidParting___init f fd) (hb : Binds K fd p_InvalidParting___init []) : FnOk P w K mg base CX0 1 f fd p_InvalidParting___init (spErr1 AA.InvalidParting "value") :=
  F.ok sc_InvalidParting___init (fun vs H Q E h => by
    obtain ⟨a, v, rfl, _⟩ := h
    rfl) fun cdv A outer s H vs Q E hr h => by
    obtain ⟨a, v, rfl, ha, q⟩ := h
    refine ⟨_, (pss_one (ps_ost (pv 0) (pv 1))), ?_⟩
    exact ⟨v, rfl, .ref a, rfl, a, AA.InvalidParting, rfl, T.e_InvalidParting.oex, T.a_InvalidParting_value, .inl ⟨ha, fun dx hd hne => q dx hd hne⟩⟩
theorem ok_check_partings (T : Txt K mg AA) : PrX P w K mg base "check_partings" s_check_partings p_check_partings 4 (spTwoP AA fun _ _ _ H Q => ∀ H', Ex H H' → Q .non H') := by
  refine prx_mk T.f_check_partings sc_check_partings (fun vs H Q E h => ?_) (fun f cdv A outer s H vs Q E hr h tk => ?_)
  · obtain ⟨v1, d1, v2, d2, rfl, _⟩ := h
    rfl
  · obtain ⟨v1, d1, v2, d2, rfl, r1, o1, r2, o2, h⟩ := h
    refine ⟨_, (pss_cons (ps_for (passes_of rfl) rfl (pi_tup (pe_tup (pa_cons (pv 0) (pa_cons (pv 1) pa_nil)))) (pg_name (i := 2) sc_check_partings.nd rfl (.inl rfl))
      (pss_one (ps_if (pt_not (pt_val (pcall (ok_is_parting T) hr (pa_cons (pv 2) pa_nil))))
      (pss_one (ps_raise1 T.e_InvalidParting (fun _ _ F b => ok_InvalidParting___init T F b) rfl tk hr (pa_cons (pv 2) pa_nil)))
      pss_nil)))
      (pss_one (ps_if (pt_cmpR op_ne (pe_callB (call_len_seqK (K := K) rfl) (by rfl) T.n_len PySem.boot_len (pa_cons (pv 0) pa_nil)) (pe_callB (call_len_seqK (K := K) rfl) (by rfl) T.n_len PySem.boot_len (pa_cons (pv 1) pa_nil)) (nomark _))
      (pss_one (ps_raise1 T.e_InvalidParting (fun _ _ F b => ok_InvalidParting___init T F b) rfl tk hr (pa_cons (pv 1) pa_nil)))
      pss_nil))), ?_⟩
    have hgood : partD d1 = true → partD d2 = true → lenD d1 = lenD d2 → ∀ H', Ex H H' → Q .non H' := fun g1 g2 g3 => by
      rcases h with ⟨n, p, q, _, _, _, _, _, _, hh⟩ | ⟨v, hv, _⟩
      · exact hh
      · unfold refP at hv
        rw [if_pos g1, if_pos ⟨g2, g3⟩] at hv
        cases hv
    have hbad : ∀ v, refP v1 d1 v2 d2 = some v → ∀ d H', H d = none → Ex H H' → H' d = some (.xd [("value", v)]) → E (.ref AA.InvalidParting) (some d) H' := fun v hv => by
      rcases h with ⟨n, p, q, rfl, rfl, h1, _, hP, hQ, _⟩ | ⟨v', hv', hh⟩
      · unfold refP at hv
        rw [if_pos (partD_of hP h1), if_pos ⟨partD_of hQ h1, by
          show (ndats p).length = (ndats q).length
          unfold ndats
          rw [List.length_map, List.length_map, hP.len, hQ.len]⟩] at hv
        cases hv
      · rw [hv] at hv'
        cases hv'
        exact hh
    refine ⟨_, rfl, _, rfl, by show 2 ≤ sizeLine; decide, fun t nt => ⟨t, rfl, ⟨[v1, v2], st_of upd_same⟩, ?_⟩⟩
    have e0 : Ex H (upd H t (.tup [v1, v2])) := Ex.new nt
    refine for_tup (xs := [v1, v2]) (fun i σ H' => ∃ y, σ = [some v1, some v2, y] ∧ Ex (upd H t (.tup [v1, v2])) H' ∧ (1 ≤ i → partD d1 = true) ∧ (2 ≤ i → partD d2 = true)) ⟨none, rfl, Ex.refl _, fun z => absurd z (by decide), fun z => absurd z (by decide)⟩ (fun i σ H' _ hp => ?_) (fun i x σ H' hx hp => ?_) (fun σ H' hp => ?_)
    · obtain ⟨_, _, e, _⟩ := hp
      exact ex_t e (st_of upd_same)
    · obtain ⟨y, rfl, e, p1, p2⟩ := hp
      have e1 := e0.trans e
      obtain ⟨d, r, o, f1, f2⟩ : ∃ d, Rep H x d ∧ okV d ∧ (partD d = false → refP v1 d1 v2 d2 = some x) ∧ (partD d = true → (1 ≤ i + 1 → partD d1 = true) ∧ (2 ≤ i + 1 → partD d2 = true)) := by
        match i, hx, p1, p2 with
        | 0, hx, p1, p2 =>
          obtain rfl := Option.some.inj hx
          exact ⟨d1, r1, o1, fun z => by unfold refP; rw [if_neg (by rw [z]; simp)], fun z => ⟨fun _ => z, fun z => absurd z (by decide)⟩⟩
        | 1, hx, p1, p2 =>
          obtain rfl := Option.some.inj hx
          have g1 := p1 (Nat.le_refl _)
          exact ⟨d2, r2, o2, fun z => by unfold refP; rw [if_pos g1, if_neg (fun h => by rw [z] at h; cases h.1)], fun z => ⟨fun _ => g1, fun _ => z⟩⟩
      refine ⟨_, rfl, x, d, rfl, r.mono e1, fun ds hd => by subst hd; exact o.part, fun H2 e2 => ⟨_, rfl, ?_⟩⟩
      cases hb : partD d with
      | true => exact iteF ⟨_, rfl, e.trans e2, (f2 hb).1, (f2 hb).2⟩
      | false => exact iteT ⟨x, rfl, raise1_by fun dd hd => hbad x (f1 hb) dd _ (fresh_back (e1.trans e2) hd) ((e1.trans e2).trans (Ex.new hd)) upd_same⟩
    · obtain ⟨y, rfl, e, p1, p2⟩ := hp
      have e1 := e0.trans e
      have g1 := p1 (by show 1 ≤ 2; decide)
      have g2 := p2 (by show 2 ≤ 2; decide)
      obtain ⟨p, hd1, _, _⟩ := partD_isP g1
      obtain ⟨q, hd2, _, _⟩ := partD_isP g2
      subst hd1 hd2
      cases r1 with
      | @tup a1 xs1 _ hx1 hR1 =>
      cases r2 with
      | @tup a2 xs2 _ hx2 hR2 =>
      refine ⟨_, rfl, a1, xs1, rfl, .inr (ex_t e1 (st_of hx1)), _, rfl, a2, xs2, rfl, .inr (ex_t e1 (st_of hx2)), rfl, _, rfl, ite2 (fun h0 => ?_) (fun h0 => ?_)⟩
      · refine ⟨_, rfl, raise1_by fun dd hd => hbad _ ?_ dd _ (fresh_back e1 hd) (e1.trans (Ex.new hd)) upd_same⟩
        unfold refP
        rw [if_pos g1, if_neg]
        rintro ⟨_, z⟩
        have z : (ndats p).length = (ndats q).length := z
        rw [hR1.length, hR2.length, z] at h0
        simp at h0
      · refine hgood g1 g2 ?_ _ e1
        show (ndats p).length = (ndats q).length
        rw [← hR1.length, ← hR2.length]
        have h3 : decide (V.int (xs1.length : Int) = V.int (xs2.length : Int)) = true := by
          cases ee : decide (V.int (xs1.length : Int) = V.int (xs2.length : Int)) with
          | true => rfl
          | false => rw [ee] at h0; exact absurd rfl h0
        have h4 := of_decide_eq_true h3
        injection h4 with h4
        omega
end
end Eyes

set_option Elab.async false
set_option linter.all false
set_option maxRecDepth 100000
set_option maxHeartbeats 4000000
namespace Eyes
open PySem PySem.Spec PyProof.Rows L2 Evl TL
def joinN (n : Nat) (p q : List Nat) : List Nat := mrgs p (numd n q)
theorem two_join {n : Nat} {p q : List Nat} (hP : IsP n p) (hQ : IsP n q) : mrgs (alone n) ([p, q].flatMap (less n)) = joinN n p q :=
  joined_cons hP fun z hz => by rw [List.mem_singleton.mp hz]; exact hQ
abbrev spMeetX (AA : Adr) : Sp := spTwoP AA fun n p q H Q => ∀ r H', Ex H H' → H r = none → H' r = some (.tup (nvs (metN n [p, q]))) → Q (.ref r) H'
abbrev spJoinX (AA : Adr) : Sp := spTwoP AA fun n p q H Q => ∀ r H', Ex H H' → H r = none → H' r = some (.tup (nvs (joinN n p q))) → Q (.ref r) H'
abbrev spWithinX (AA : Adr) : Sp := spTwoP AA fun n p q H Q => ∀ H', Ex H H' → Q (.bl (inn p q)) H'
theorem Rep.nvs' {H : Hp} {v : V} {p : List Nat} (h : Rep H v (.tuple (ndats p))) : ∃ a, v = .ref a ∧ H a = some (.tup (nvs p)) := by
  cases h with
  | @tup a xs _ h1 h2 => exact ⟨a, rfl, rep_tup (.tup h1 h2)⟩
section
variable {P : Program} {w : World} {K : PySem.W.Frag} {mg : Str → Option Value} {base : Heap} {AA : Adr}
theorem ok_meet_of (T : Txt K mg AA) : PrX P w K mg base "meet_of" s_meet_of p_meet_of 5 (spMeetX AA) := by
  refine prx_mk T.f_meet_of sc_meet_of (fun vs H Q E h => ?_) (fun f cdv A outer s H vs Q E hr h tk => ?_)
  · obtain ⟨v1, d1, v2, d2, rfl, _⟩ := h
    rfl
  · obtain ⟨v1, d1, v2, d2, rfl, r1, o1, r2, o2, h⟩ := h
    refine ⟨_, (pss_cons (ps_expr (pcallX (ok_check_partings T) hr tk (pa_cons (pv 0) (pa_cons (pv 1) pa_nil))))
      (pss_one (ps_ret (pcall (ok_met T) hr (pa_cons (pe_lst (pa_cons (pv 0) (pa_cons (pv 1) pa_nil))) pa_nil))))), ?_⟩
    refine ⟨_, rfl, _, rfl, v1, d1, v2, d2, rfl, r1, o1, r2, o2, ?_⟩
    rcases h with ⟨n, p, q, e1, e2, h1, hn, hP, hQ, hh⟩ | ⟨v, hv, hh⟩
    · refine .inl ⟨n, p, q, e1, e2, h1, hn, hP, hQ, fun H2 x2 => ?_⟩
      subst e1 e2
      obtain ⟨a, rfl, ha⟩ := r1.nvs'
      obtain ⟨b, rfl, hb⟩ := r2.nvs'
      refine ⟨_, rfl, _, rfl, by show 2 ≤ sizeLine; decide, fun l nl => ?_⟩
      have x3 := x2.trans (Ex.new (o := .lst [.ref a, .ref b]) nl)
      exact ⟨n, l, a, b, p, q, rfl, sq_of upd_same, st_of (x3 _ _ ha), st_of (x3 _ _ hb), hP, hQ, h1, hn, fun r H4 x4 nr hr4 => hh r H4 (x3.trans x4) (fresh_back x3 nr) hr4⟩
    · exact .inr ⟨v, hv, hh⟩
theorem ok_join_of (T : Txt K mg AA) : PrX P w K mg base "join_of" s_join_of p_join_of 5 (spJoinX AA) := by
  refine prx_mk T.f_join_of sc_join_of (fun vs H Q E h => ?_) (fun f cdv A outer s H vs Q E hr h tk => ?_)
  · obtain ⟨v1, d1, v2, d2, rfl, _⟩ := h
    rfl
  · obtain ⟨v1, d1, v2, d2, rfl, r1, o1, r2, o2, h⟩ := h
    refine ⟨_, (pss_cons (ps_expr (pcallX (ok_check_partings T) hr tk (pa_cons (pv 0) (pa_cons (pv 1) pa_nil))))
      (pss_one (ps_ret (pcall (ok_joined T) hr (pa_cons (pe_lst (pa_cons (pv 0) (pa_cons (pv 1) pa_nil))) pa_nil))))), ?_⟩
    refine ⟨_, rfl, _, rfl, v1, d1, v2, d2, rfl, r1, o1, r2, o2, ?_⟩
    rcases h with ⟨n, p, q, e1, e2, h1, hn, hP, hQ, hh⟩ | ⟨v, hv, hh⟩
    · refine .inl ⟨n, p, q, e1, e2, h1, hn, hP, hQ, fun H2 x2 => ?_⟩
      subst e1 e2
      obtain ⟨a, rfl, ha⟩ := r1.nvs'
      obtain ⟨b, rfl, hb⟩ := r2.nvs'
      refine ⟨_, rfl, _, rfl, by show 2 ≤ sizeLine; decide, fun l nl => ?_⟩
      have x3 := x2.trans (Ex.new (o := .lst [.ref a, .ref b]) nl)
      refine ⟨n, l, [.ref a, .ref b], [p, q], rfl, hn, by show 2 ≤ 200; decide, by show 0 < 2; decide, sq_of upd_same, ⟨rfl, fun i u hu => ?_⟩, fun r H4 x4 nr hr4 => hh r H4 (x3.trans x4) (fresh_back x3 nr) (by rw [← two_join hP hQ]; exact hr4)⟩
      match i, hu with
      | 0, hu =>
        obtain rfl := Option.some.inj hu
        exact ⟨a, p, rfl, rfl, st_of (x3 _ _ ha), hP⟩
      | 1, hu =>
        obtain rfl := Option.some.inj hu
        exact ⟨b, q, rfl, rfl, st_of (x3 _ _ hb), hQ⟩
    · exact .inr ⟨v, hv, hh⟩
theorem ok_is_within (T : Txt K mg AA) : PrX P w K mg base "is_within" s_is_within p_is_within 5 (spWithinX AA) := by
  refine prx_mk T.f_is_within sc_is_within (fun vs H Q E h => ?_) (fun f cdv A outer s H vs Q E hr h tk => ?_)
  · obtain ⟨v1, d1, v2, d2, rfl, _⟩ := h
    rfl
  · obtain ⟨v1, d1, v2, d2, rfl, r1, o1, r2, o2, h⟩ := h
    refine ⟨_, (pss_cons (ps_expr (pcallX (ok_check_partings T) hr tk (pa_cons (pv 0) (pa_cons (pv 1) pa_nil))))
      (pss_one (ps_ret (pcall (ok_within T) hr (pa_cons (pv 0) (pa_cons (pv 1) pa_nil)))))), ?_⟩
    refine ⟨_, rfl, _, rfl, v1, d1, v2, d2, rfl, r1, o1, r2, o2, ?_⟩
    rcases h with ⟨n, p, q, e1, e2, h1, hn, hP, hQ, hh⟩ | ⟨v, hv, hh⟩
    · refine .inl ⟨n, p, q, e1, e2, h1, hn, hP, hQ, fun H2 x2 => ?_⟩
      subst e1 e2
      obtain ⟨a, rfl, ha⟩ := r1.nvs'
      obtain ⟨b, rfl, hb⟩ := r2.nvs'
      exact ⟨_, rfl, _, rfl, n, a, b, p, q, rfl, hn, st_of (x2 _ _ ha), hP, st_of (x2 _ _ hb), hQ, fun H4 x4 => hh H4 (x2.trans x4)⟩
    · exact .inr ⟨v, hv, hh⟩
def badPair (n : Nat) (ds : List PyData) (k : Nat) : Prop := (∃ d, ds[k]? = some d ∧ pairD n d = false) ∧ ∀ j d, j < k → ds[j]? = some d → pairD n d = true
theorem pairD_of {n : Nat} {d : PyData} (h : pairD n d = true) : ∃ x y : Nat, d = .tuple [.int x, .int y] ∧ (1 ≤ x ∧ x ≤ n) ∧ 1 ≤ y ∧ y ≤ n := by
  have two : ∃ a b : Int, d = .tuple [.int a, .int b] := by
    unfold pairD at h
    split at h
    · rename_i a b
      rw [Bool.and_eq_true] at h
      cases a with
      | int a =>
        cases b with
        | int b => exact ⟨a, b, rfl⟩
        | _ => cases h.2
      | _ => cases h.1
    · cases h
  obtain ⟨a, b, rfl⟩ := two
  · have h : ((decide (1 ≤ a) && decide (a ≤ (n : Int))) && (decide (1 ≤ b) && decide (b ≤ (n : Int)))) = true := h
    simp only [Bool.and_eq_true, decide_eq_true_iff] at h
    refine ⟨a.toNat, b.toNat, ?_, by omega, by omega⟩
    rw [show ((a.toNat : Nat) : Int) = a by omega, show ((b.toNat : Nat) : Int) = b by omega]
def spParting (K : PySem.W.Frag) (AA : Adr) : Sp := fun vs H Q E => ∃ (v1 v2 : V) (d1 : PyData), vs = [v1, v2] ∧ Rep H v1 d1 ∧
  ((numD d1 1 2400 = false ∧ ∀ d H', H d = none → Ex H H' → H' d = some (.xd [("value", v1)]) → E (.ref AA.InvalidNumber) (some d) H') ∨
   (∃ n : Nat, d1 = .int n ∧ 1 ≤ n ∧ n ≤ 2400 ∧ (∃ t, TyX K H v2 t ∧ PySem.W.kitAny K t [.type "list", .type "tuple"] = some false) ∧ ∀ d H', H d = none → Ex H H' → H' d = some (.xd [("at", .int (-1))]) → E (.ref AA.InvalidTie) (some d) H') ∨
   ∃ (n : Nat) (a : Addr) (us : List V) (ds : List PyData), d1 = .int n ∧ 1 ≤ n ∧ n ≤ 2400 ∧ v2 = .ref a ∧ (H a = some (.lst us) ∨ H a = some (.tup us)) ∧ Reps H us ds ∧ us.length ≤ 4000 ∧
     ((∃ k : Nat, badPair n ds k ∧ ∀ d H', H d = none → Ex H H' → H' d = some (.xd [("at", .int k)]) → E (.ref AA.InvalidTie) (some d) H') ∨
      ((∀ d ∈ ds, pairD n d = true) ∧ ∃ l : List (Nat × Nat), ds = l.map (fun xy => PyData.tuple [.int xy.1, .int xy.2]) ∧ ∀ r H', Ex H H' → H r = none → H' r = some (.tup (nvs (mrgs (alone n) l))) → Q (.ref r) H')))
theorem ok_InvalidNumber___init (T : Txt K mg AA) {f : Addr} {fd : FuncData} (F : Fun K "__init__" "InvalidNumber.__init__" s_InvalidNumber___init f fd) (hb : Binds K fd p_InvalidNumber___init []) : FnOk P w K mg base CX0 1 f fd p_InvalidNumber___init (spErr1 AA.InvalidNumber "value") :=
  F.ok sc_InvalidNumber___init (fun vs H Q E h => by
    obtain ⟨a, v, rfl, _⟩ := h
    rfl) fun cdv A outer s H vs Q E hr h => by
    obtain ⟨a, v, rfl, ha, q⟩ := h
    refine ⟨_, (pss_one (ps_ost (pv 0) (pv 1))), ?_⟩
    exact ⟨v, rfl, .ref a, rfl, a, AA.InvalidNumber, rfl, T.e_InvalidNumber.oex, T.a_InvalidNumber_value, .inl ⟨ha, fun dx hd hne => q dx hd hne⟩⟩
theorem ok_InvalidTie___init (T : Txt K mg AA) {f : Addr} {fd : FuncData} (F : Fun K "__init__" "InvalidTie.__init__" s_InvalidTie___init f fd) (hb : Binds K fd p_InvalidTie___init []) : FnOk P w K mg base CX0 1 f fd p_InvalidTie___init (spErr1 AA.InvalidTie "at") :=
  F.ok sc_InvalidTie___init (fun vs H Q E h => by
    obtain ⟨a, v, rfl, _⟩ := h
    rfl) fun cdv A outer s H vs Q E hr h => by
    obtain ⟨a, v, rfl, ha, q⟩ := h
    refine ⟨_, (pss_one (ps_ost (pv 0) (pv 1))), ?_⟩
    exact ⟨v, rfl, .ref a, rfl, a, AA.InvalidTie, rfl, T.e_InvalidTie.oex, T.a_InvalidTie_at, .inl ⟨ha, fun dx hd hne => q dx hd hne⟩⟩
theorem ok_parting_of (T : Txt K mg AA) : PrX P w K mg base "parting_of" s_parting_of p_parting_of 4 (spParting K AA) := by
  refine prx_mk T.f_parting_of sc_parting_of (fun vs H Q E h => ?_) (fun f cdv A outer s H vs Q E hr h tk => ?_)
  · obtain ⟨v1, v2, d1, rfl, _⟩ := h
    rfl
  · obtain ⟨v1, v2, d1, rfl, r1, h⟩ := h
    refine ⟨_, (pss_cons (ps_if (pt_not (pt_val (pcall (ok_is_number T) hr (pa_cons (pv 0) (pa_cons pe_int (pa_cons (pgI T.m_MOST_CASES) pa_nil))))))
      (pss_one (ps_raise1 T.e_InvalidNumber (fun _ _ F b => ok_InvalidNumber___init T F b) rfl tk hr (pa_cons (pv 0) pa_nil)))
      pss_nil)
      (pss_cons (ps_if (pt_not (pt_val (pe_callB call_isiT (by rfl) T.n_isinstance PyProof.Rows.boot_isinstance (pa_cons (pv 1) (pa_cons (pe_tup (pa_cons (pe_bltn (v := .ty "list") (by rfl) T.n_list (by decide +kernel) rfl) (pa_cons (pe_bltn (v := .ty "tuple") (by rfl) T.n_tuple (by decide +kernel) rfl) pa_nil))) pa_nil)))))
      (pss_one (ps_raise1 T.e_InvalidTie (fun _ _ F b => ok_InvalidTie___init T F b) rfl tk hr (pa_cons (pe_un un_neg pe_int) pa_nil)))
      pss_nil)
      (pss_cons (ps_for (passes_of rfl) rfl (pi_or (pi_enum (by rfl) T.n_enumerate (pa_cons (pv 1) pa_nil)) (pi_enumT (by rfl) T.n_enumerate (pa_cons (pv 1) pa_nil))) (pg_tup (by rfl) (pgs_cons (pg_name (i := 2) sc_parting_of.nd rfl (.inl rfl)) (pgs_cons (pg_name (i := 3) sc_parting_of.nd rfl (.inl rfl)) pgs_nil)))
      (pss_one (ps_if (pt_not (pt_val (pcall (ok_is_pair T) hr (pa_cons (pv 3) (pa_cons (pv 0) pa_nil)))))
      (pss_one (ps_raise1 T.e_InvalidTie (fun _ _ F b => ok_InvalidTie___init T F b) rfl tk hr (pa_cons (pv 2) pa_nil)))
      pss_nil)))
      (pss_one (ps_ret (pcall (ok_linked T) hr (pa_cons (pv 0) (pa_cons (pv 1) pa_nil)))))))), ?_⟩
    refine ⟨_, rfl, v1, d1, 1, 2400, rfl, r1, ?_⟩
    rcases h with ⟨hn, hh⟩ | ⟨n, rfl, h1, h24, ⟨ty, ht, hk⟩, hh⟩ | ⟨n, a, us, ds, rfl, h1, h24, rfl, ha, hR, hus, hh⟩
    · rw [hn]
      exact ⟨_, rfl, iteT ⟨_, rfl, raise1_by fun dd hd => hh dd _ hd (Ex.new hd) upd_same⟩⟩
    · have hb : numD (.int (n : Int)) 1 2400 = true := by
        show (decide ((1 : Int) ≤ n) && decide ((n : Int) ≤ 2400)) = true
        rw [decide_eq_true (by omega), decide_eq_true (by omega)]
        rfl
      rw [hb]
      refine ⟨_, rfl, iteF ⟨_, rfl, by show 2 ≤ sizeLine; decide, fun tp ntp => ⟨v2, tp, [.ty "list", .ty "tuple"], ty, [.type "list", .type "tuple"], _, rfl, upd_same, .cons (.ty _) (.cons (.ty _) .nil), TyX.mono (Ex.new ntp) ht, hk, _, rfl, iteT ?_⟩⟩⟩
      have e := Ex.new (o := .tup [.ty "list", .ty "tuple"]) ntp
      exact ⟨1, rfl, raise1_by fun dd hd => hh dd _ (fresh_back e hd) (e.trans (Ex.new hd)) upd_same⟩
    · have hb : numD (.int (n : Int)) 1 2400 = true := by
        show (decide ((1 : Int) ≤ n) && decide ((n : Int) ≤ 2400)) = true
        rw [decide_eq_true (by omega), decide_eq_true (by omega)]
        rfl
      rw [hb]
      cases r1
      have hlen := hR.length
      have hty : ∃ ty, TyX K H (.ref a) ty ∧ PySem.W.kitAny K ty [.type "list", .type "tuple"] = some true := by
        rcases ha with ha | ha
        · exact ⟨_, (Rep.lst ha hR).ty, kit_seq K (.list ds)⟩
        · exact ⟨_, (Rep.tup ha hR).ty, kit_seq K (.tuple ds)⟩
      obtain ⟨ty, ht, hk⟩ := hty
      refine ⟨_, rfl, iteF ⟨_, rfl, by show 2 ≤ sizeLine; decide, fun tp ntp => ⟨.ref a, tp, [.ty "list", .ty "tuple"], ty, [.type "list", .type "tuple"], _, rfl, upd_same, .cons (.ty _) (.cons (.ty _) .nil), TyX.mono (Ex.new ntp) ht, hk, _, rfl, iteF ?_⟩⟩⟩
      have e := Ex.new (o := .tup [.ty "list", .ty "tuple"]) ntp
      generalize upd H tp (.tup [.ty "list", .ty "tuple"]) = H1 at e ⊢
      -- one turn
      have stops : ∀ k : Nat, badPair n ds k → k < us.length := fun k hb => by
        obtain ⟨⟨d, hd, _⟩, _⟩ := hb
        have := (List.getElem?_eq_some_iff.mp hd).1
        omega
      have hbad : ∀ k : Nat, badPair n ds k → ∀ d H', H d = none → Ex H H' → H' d = some (.xd [("at", .int k)]) → E (.ref AA.InvalidTie) (some d) H' := fun k hb => by
        rcases hh with ⟨k2, hb2, hh⟩ | ⟨hall, _⟩
        · have : k = k2 := by
            rcases Nat.lt_trichotomy k k2 with z | z | z
            · obtain ⟨⟨d, hd, hf⟩, _⟩ := hb
              rw [hb2.2 k d z hd] at hf
              cases hf
            · exact z
            · obtain ⟨⟨d, hd, hf⟩, _⟩ := hb2
              rw [hb.2 k2 d z hd] at hf
              cases hf
          subst this
          exact hh
        · obtain ⟨⟨d, hd, hf⟩, _⟩ := hb
          rw [hall d (List.mem_of_getElem? hd)] at hf
          cases hf
      rcases ha with ha | ha
      · refine .inl ⟨_, rfl, a, us, rfl, ex_l e (sq_of ha), ?_⟩
        refine for_it (walk_enum (xs := us)) (fun i σ H' => ∃ y2 y3, σ = [some (.int (n : Int)), some (.ref a), y2, y3] ∧ Ex H1 H' ∧ ∀ j d, j < i → ds[j]? = some d → pairD n d = true) ⟨none, none, rfl, Ex.refl _, fun j d z => absurd z (Nat.not_lt_zero _)⟩ (fun i σ H' _ hp => ?_) (fun i v σ H5 H6 hi hp hy => ?_) (fun σ H' hp => ?_)
        · obtain ⟨_, _, _, e5, _⟩ := hp
          exact ex_l (e.trans e5) (sq_of ha)
        · obtain ⟨y2, y3, rfl, e5, hpre⟩ := hp
          obtain ⟨T1, u1, u2, rfl, hT, rfl, g1, g2⟩ := hy
          obtain ⟨d, hd, hrd⟩ := hR.get g2
          have e6 := (e.trans e5).trans (Ex.new (o := .tup [u1, u2]) hT)
          refine ⟨T1, _, rfl, st_of upd_same, rfl, _, _, rfl, _, _, rfl, rfl, _, rfl, _, rfl, u2, d, n, rfl, hrd.mono e6, fun H7 e7 => ⟨_, rfl, ?_⟩⟩
          cases hb : pairD n d with
          | true =>
            refine iteF ⟨_, _, rfl, (e5.trans (Ex.new hT)).trans e7, fun j d2 hj hd2 => ?_⟩
            rcases Nat.lt_or_ge j i with z | z
            · exact hpre j d2 z hd2
            · obtain rfl : j = i := by omega
              rw [hd] at hd2
              cases hd2
              exact hb
          | false =>
            refine iteT ⟨_, rfl, raise1_by fun dd hdd => hbad i ⟨⟨d, hd, hb⟩, hpre⟩ dd _ (fresh_back (e6.trans e7) hdd) ((e6.trans e7).trans (Ex.new hdd)) ?_⟩
            rw [upd_same]
            obtain rfl := Option.some.inj g1
            rfl
        · obtain ⟨y2, y3, rfl, e5, hpre⟩ := hp
          rcases hh with ⟨k, hb, _⟩ | ⟨_, l, rfl, hh⟩
          · obtain ⟨⟨d, hd, hf⟩, _⟩ := id hb
            rw [hpre k d (stops k hb) hd] at hf
            cases hf
          · have e6 := e.trans e5
            refine ⟨_, rfl, _, rfl, n, a, us, l, rfl, by omega, .inl (ex_l e6 (sq_of ha)), ⟨by rw [hlen, List.length_map], fun i u hu => ?_⟩, fun xy hxy => ?_, fun r H7 e7 nr h7 => hh r H7 (e6.trans e7) (fresh_back e6 nr) h7⟩
            · obtain ⟨d, hd, hrd⟩ := hR.get hu
              rw [List.getElem?_map] at hd
              obtain ⟨xy, hxy, rfl⟩ := Option.map_eq_some_iff.mp hd
              cases hrd with
              | @tup c zs _ hc hRc =>
                refine ⟨c, xy, rfl, hxy, ?_⟩
                cases hRc with
                | cons q1 q2 =>
                  cases q2 with
                  | cons q2 q3 =>
                    cases q3
                    cases q1
                    cases q2
                    exact st_of (e6 _ _ hc)
            · obtain ⟨k, hk⟩ := List.getElem?_of_mem hxy
              have hp := hpre k (.tuple [.int xy.1, .int xy.2]) (by
                have := (List.getElem?_eq_some_iff.mp hk).1
                rw [hlen, List.length_map]
                exact this) (by rw [List.getElem?_map, hk]; rfl)
              obtain ⟨x, y, e1, e2, e3⟩ := pairD_of hp
              injection e1 with e1
              injection e1 with e1 e4
              injection e4 with e4
              injection e1 with e1
              injection e4 with e4
              have : xy.1 = x := by omega
              have : xy.2 = y := by omega
              omega
      · refine .inr ⟨_, rfl, a, us, rfl, ex_t e (st_of ha), ?_⟩
        refine for_it (walk_enumT (xs := us)) (fun i σ H' => ∃ y2 y3, σ = [some (.int (n : Int)), some (.ref a), y2, y3] ∧ Ex H1 H' ∧ ∀ j d, j < i → ds[j]? = some d → pairD n d = true) ⟨none, none, rfl, Ex.refl _, fun j d z => absurd z (Nat.not_lt_zero _)⟩ (fun i σ H' _ hp => ?_) (fun i v σ H5 H6 hi hp hy => ?_) (fun σ H' hp => ?_)
        · obtain ⟨_, _, _, e5, _⟩ := hp
          exact ex_t (e.trans e5) (st_of ha)
        · obtain ⟨y2, y3, rfl, e5, hpre⟩ := hp
          obtain ⟨T1, u1, u2, rfl, hT, rfl, g1, g2⟩ := hy
          obtain ⟨d, hd, hrd⟩ := hR.get g2
          have e6 := (e.trans e5).trans (Ex.new (o := .tup [u1, u2]) hT)
          refine ⟨T1, _, rfl, st_of upd_same, rfl, _, _, rfl, _, _, rfl, rfl, _, rfl, _, rfl, u2, d, n, rfl, hrd.mono e6, fun H7 e7 => ⟨_, rfl, ?_⟩⟩
          cases hb : pairD n d with
          | true =>
            refine iteF ⟨_, _, rfl, (e5.trans (Ex.new hT)).trans e7, fun j d2 hj hd2 => ?_⟩
            rcases Nat.lt_or_ge j i with z | z
            · exact hpre j d2 z hd2
            · obtain rfl : j = i := by omega
              rw [hd] at hd2
              cases hd2
              exact hb
          | false =>
            refine iteT ⟨_, rfl, raise1_by fun dd hdd => hbad i ⟨⟨d, hd, hb⟩, hpre⟩ dd _ (fresh_back (e6.trans e7) hdd) ((e6.trans e7).trans (Ex.new hdd)) ?_⟩
            rw [upd_same]
            obtain rfl := Option.some.inj g1
            rw [Int.zero_add]
        · obtain ⟨y2, y3, rfl, e5, hpre⟩ := hp
          rcases hh with ⟨k, hb, _⟩ | ⟨_, l, rfl, hh⟩
          · obtain ⟨⟨d, hd, hf⟩, _⟩ := id hb
            rw [hpre k d (stops k hb) hd] at hf
            cases hf
          · have e6 := e.trans e5
            refine ⟨_, rfl, _, rfl, n, a, us, l, rfl, by omega, .inr (ex_t e6 (st_of ha)), ⟨by rw [hlen, List.length_map], fun i u hu => ?_⟩, fun xy hxy => ?_, fun r H7 e7 nr h7 => hh r H7 (e6.trans e7) (fresh_back e6 nr) h7⟩
            · obtain ⟨d, hd, hrd⟩ := hR.get hu
              rw [List.getElem?_map] at hd
              obtain ⟨xy, hxy, rfl⟩ := Option.map_eq_some_iff.mp hd
              cases hrd with
              | @tup c zs _ hc hRc =>
                refine ⟨c, xy, rfl, hxy, ?_⟩
                cases hRc with
                | cons q1 q2 =>
                  cases q2 with
                  | cons q2 q3 =>
                    cases q3
                    cases q1
                    cases q2
                    exact st_of (e6 _ _ hc)
            · obtain ⟨k, hk⟩ := List.getElem?_of_mem hxy
              have hp := hpre k (.tuple [.int xy.1, .int xy.2]) (by
                have := (List.getElem?_eq_some_iff.mp hk).1
                rw [hlen, List.length_map]
                exact this) (by rw [List.getElem?_map, hk]; rfl)
              obtain ⟨x, y, e1, e2, e3⟩ := pairD_of hp
              injection e1 with e1
              injection e1 with e1 e4
              injection e4 with e4
              injection e1 with e1
              injection e4 with e4
              have : xy.1 = x := by omega
              have : xy.2 = y := by omega
              omega
end
end Eyes

set_option Elab.async false
set_option linter.all false
set_option maxRecDepth 100000
set_option maxHeartbeats 4000000
namespace Eyes
open PySem PySem.Spec PyProof.Rows L2 Evl TL
/-! ### lots -/
def rootsN (p : List Nat) (i : Nat) : List Nat := (alone i).filter fun x => decide (itm p x = x)
def cellN (p : List Nat) (i r : Nat) : List Nat := (alone i).filter fun x => decide (itm p x = r)
def lotsN (p : List Nat) (n : Nat) : List (List Nat) := (rootsN p n).map (cellN p n)
theorem alone_succ (i : Nat) : alone (i + 1) = alone i ++ [i + 1] := by
  unfold alone
  rw [List.range_succ, List.map_append]
  rfl
theorem alone_mem {i x : Nat} : x ∈ alone i ↔ 1 ≤ x ∧ x ≤ i := by
  unfold alone
  rw [List.mem_map]
  constructor
  · rintro ⟨k, hk, rfl⟩
    have := List.mem_range.mp hk
    omega
  · intro h
    exact ⟨x - 1, List.mem_range.mpr (by omega), by omega⟩
theorem roots_mem {p : List Nat} {i x : Nat} : x ∈ rootsN p i ↔ (1 ≤ x ∧ x ≤ i) ∧ itm p x = x := by
  unfold rootsN
  rw [List.mem_filter, alone_mem, decide_eq_true_iff]
theorem alone_nodup (i : Nat) : (alone i).Nodup := by
  induction i with
  | zero => exact List.nodup_nil
  | succ i ih =>
    rw [alone_succ]
    refine List.nodup_append.mpr ⟨ih, by simp, fun a ha b hb e => ?_⟩
    rw [List.mem_singleton.mp hb] at e
    have := alone_mem.mp ha
    omega
theorem roots_nodup (p : List Nat) (i : Nat) : (rootsN p i).Nodup := (alone_nodup i).filter _
theorem cell_same {p : List Nat} {i r : Nat} (h : itm p (i + 1) ≠ r) : cellN p (i + 1) r = cellN p i r := by
  unfold cellN
  rw [alone_succ, List.filter_append, List.filter_cons, if_neg (by simpa using h)]
  exact List.append_nil _
theorem cell_more {p : List Nat} {i : Nat} : cellN p (i + 1) (itm p (i + 1)) = cellN p i (itm p (i + 1)) ++ [i + 1] := by
  unfold cellN
  rw [alone_succ, List.filter_append, List.filter_cons, if_pos (by simp)]
  rfl
theorem cell_none {p : List Nat} {i r : Nat} (h : ∀ x, 1 ≤ x → x ≤ i → itm p x ≠ r) : cellN p i r = [] := by
  unfold cellN
  rw [List.filter_eq_nil_iff]
  intro x hx
  obtain ⟨h1, h2⟩ := alone_mem.mp hx
  simpa using h x h1 h2
theorem cell_len {p : List Nat} {i r : Nat} : (cellN p i r).length ≤ i := by
  unfold cellN
  refine Nat.le_trans (List.length_filter_le ..) ?_
  rw [alone_len]
  exact Nat.le_refl _
theorem roots_len {p : List Nat} {i : Nat} : (rootsN p i).length ≤ i := by
  unfold rootsN
  refine Nat.le_trans (List.length_filter_le ..) ?_
  rw [alone_len]
  exact Nat.le_refl _
theorem roots_same {p : List Nat} {i : Nat} (h : itm p (i + 1) ≠ i + 1) : rootsN p (i + 1) = rootsN p i := by
  unfold rootsN
  rw [alone_succ, List.filter_append, List.filter_cons, if_neg (by simpa using h)]
  exact List.append_nil _
theorem roots_more {p : List Nat} {i : Nat} (h : itm p (i + 1) = i + 1) : rootsN p (i + 1) = rootsN p i ++ [i + 1] := by
  unfold rootsN
  rw [alone_succ, List.filter_append, List.filter_cons, if_pos (by simpa using h)]
  rfl
def tabN (rs : List Nat) (bs : List Addr) : List (L2.Key × V) := (rs.zip bs).map fun p => (Sum.inl (p.1 : Int), V.ref p.2)
theorem tab_none : ∀ {rs : List Nat} {bs : List Addr} {r : Nat}, r ∉ rs → valV (tabN rs bs) (Sum.inl (r : Int)) = none
  | [], _, _, _ => rfl
  | _ :: _, [], _, _ => rfl
  | a :: rs, b :: bs, r, h => by
    show valV ((Sum.inl (a : Int), V.ref b) :: tabN rs bs) _ = none
    rw [valV_neg (p := (Sum.inl (a : Int), V.ref b)) (fun e => h (by
      injection e with e
      have : a = r := by omega
      rw [this]
      exact List.mem_cons_self))]
    exact tab_none fun z => h (List.mem_cons_of_mem _ z)
theorem tab_some : ∀ {rs : List Nat} {bs : List Addr} {r : Nat}, bs.length = rs.length → r ∈ rs → ∃ (j : Nat) (b : Addr), rs[j]? = some r ∧ bs[j]? = some b ∧ valV (tabN rs bs) (Sum.inl (r : Int)) = some (.ref b)
  | a :: rs, [], r, hl, _ => by cases hl
  | a :: rs, b :: bs, r, hl, h => by
    by_cases e : a = r
    · subst e
      exact ⟨0, b, rfl, rfl, valV_pos (p := (Sum.inl (a : Int), V.ref b)) rfl⟩
    · obtain ⟨j, c, h1, h2, h3⟩ := tab_some (rs := rs) (bs := bs) (r := r) (by simpa using hl) ((List.mem_cons.mp h).resolve_left fun z => e z.symm)
      refine ⟨j + 1, c, h1, h2, ?_⟩
      show valV ((Sum.inl (a : Int), V.ref b) :: tabN rs bs) _ = _
      rw [valV_neg (p := (Sum.inl (a : Int), V.ref b)) (fun z => e (by injection z with z; omega))]
      exact h3
theorem tab_len {rs : List Nat} {bs : List Addr} (h : bs.length = rs.length) : (tabN rs bs).length = rs.length := by
  unfold tabN
  rw [List.length_map, List.length_zip]
  omega
theorem tab_snoc {rs : List Nat} {bs : List Addr} {r : Nat} {b : Addr} (h : bs.length = rs.length) : tabN (rs ++ [r]) (bs ++ [b]) = tabN rs bs ++ [(Sum.inl (r : Int), V.ref b)] := by
  unfold tabN
  rw [List.zip_append h.symm, List.map_append]
  rfl
def Rws (H : Hp) (us : List V) (l : List (List Nat)) : Prop := us.length = l.length ∧ ∀ (i : Nat) u, us[i]? = some u → ∃ t c, u = .ref t ∧ l[i]? = some c ∧ H t = some (.tup (nvs c))
def spLots (K : PySem.W.Frag) : Sp := fun vs H Q _ => ∃ (n : Nat) (a : Addr) (p : List Nat), vs = [.ref a] ∧ SqT K H a (nvs p) ∧ IsP n p ∧ n ≤ 4096 ∧ ∀ r us H', Ex H H' → H r = none → H' r = some (.lst us) → Rws H' us (lotsN p n) → Q (.ref r) H'
structure Lt (p : List Nat) (D : Addr) (i : Nat) (bs : List Addr) (H H' : Hp) : Prop where
  len : bs.length = (rootsN p i).length
  nd : bs.Nodup
  tab : H' D = some (.dK (tabN (rootsN p i) bs))
  at_ : ∀ (j : Nat) (r : Nat) (b : Addr), (rootsN p i)[j]? = some r → bs[j]? = some b → H' b = some (.lst (nvs (cellN p i r))) ∧ H b = none ∧ b ≠ D
section
variable {P : Program} {w : World} {K : PySem.W.Frag} {mg : Str → Option Value} {base : Heap} {AA : Adr}
theorem ok_lots_of (T : Txt K mg AA) : Pr P w K mg base "lots_of" s_lots_of p_lots_of 1 (spLots K) := by
  refine pr_mk T.f_lots_of sc_lots_of (fun vs H Q E h => ?_) (fun f cdv A outer s H vs Q E hr h => ?_)
  · obtain ⟨n, a, p, rfl, _⟩ := h
    rfl
  · obtain ⟨n, a, p, rfl, ha, hP, hn, q⟩ := h
    refine ⟨_, (pss_cons (ps_set (i := 1) sc_lots_of.nd rfl (.inl rfl) pe_dnewK)
      (pss_cons (ps_for PassesOwn.never rfl (pi_enumTSK (K := K) rfl (by rfl) T.n_enumerate (pa_cons (pv 0) pa_nil) (pk_cons pe_int pk_nil)) (pg_tup (by rfl) (pgs_cons (pg_name (i := 2) sc_lots_of.nd rfl (.inl rfl)) (pgs_cons (pg_name (i := 3) sc_lots_of.nd rfl (.inl rfl)) pgs_nil)))
      (pss_one (ps_expr (pe_bm PySem.F.plainAttrs_list PySem.F.slot_list_append PySem.F.type_list_append mt_append (pe_dsetdA hr.units (pv 1) (pv 3) (pe_lst pa_nil) ⟨by rfl, by rfl, by rfl, by rfl⟩) (pa_cons (pv 2) pa_nil)))))
      (pss_one (ps_ret (pe_lock (pe_lc (own := [("lot", 4)]) (g := gName 4) (tt := tYes) rfl sc_lots_of.nd (pi_values (pv 1)) (blkOk_by (own := [("lot", 4)]) (N := n_lots_of) (sc := defScope s_lots_of) (by decide +kernel)) (fun _ _ _ _ _ => (pg_name (i := 4) sc_lots_of.nd rfl (.inl rfl))) (fun _ _ _ _ _ => pts_nil) (fun _ _ _ _ _ => (pe_callTy (call_tuple_ofK (K := K) rfl) (by rfl) T.n_tuple PyProof.Rows.boot_tuple (pa_cons (pv 4) pa_nil))))))))), ?_⟩
    refine fun D nD => ?_
    have e0 : Ex H (upd H D (.dK [])) := Ex.new nD
    refine ⟨_, rfl, a, 1, nvs p, rfl, rfl, by omega, by omega, ex_t e0 ha, ?_⟩
    refine for_it (walk_enumT (k := 1) (xs := nvs p)) (fun i σ H' => ∃ y2 y3 bs, σ = [some (.ref a), some (.ref D), y2, y3, none] ∧ Ex H H' ∧ Lt p D i bs H H') ⟨none, none, [], rfl, e0, rfl, List.nodup_nil, upd_same, fun j r b h => by cases h⟩ (fun i σ H' _ hp => ?_) (fun i v σ H1 H2 hi hp hy => ?_) (fun σ H' hp => ?_)
    · obtain ⟨_, _, _, _, e, _⟩ := hp
      exact ex_t e ha
    · obtain ⟨y2, y3, bs, rfl, e, L⟩ := hp
      obtain ⟨T1, u1, u2, rfl, hT, rfl, g1, g2⟩ := hy
      rw [nvs_len, hP.len] at hi
      obtain rfl : u2 = .int (itm p (i + 1) : Nat) := Option.some.inj (g2.symm.trans (nvs_get (itm_get (x := i + 1) (by omega) (by rw [hP.len]; omega))))
      obtain rfl : V.int (1 + (i : Int)) = u1 := Option.some.inj g1
      have z1 : (1 : Int) + (i : Int) = ((i + 1 : Nat) : Int) := by omega
      rw [z1]
      have lo := hP.lo (i + 1) (by omega) (by omega)
      have rt := hP.rt (i + 1) (by omega) (by omega)
      have x1 : Ex H1 (upd H1 T1 (.tup [.int ((i + 1 : Nat) : Int), .int (itm p (i + 1) : Nat)])) := Ex.new hT
      refine ⟨T1, _, rfl, st_of upd_same, rfl, _, _, rfl, _, _, rfl, rfl, ?_⟩
      generalize upd H1 T1 _ = H3 at x1 ⊢
      have hD3 := x1 _ _ L.tab
      refine ⟨_, rfl, D, rfl, .inl ⟨_, .inl hD3⟩, _, rfl, by show 0 ≤ sizeLine; decide, fun nb hnb => ?_⟩
      have x2 : Ex H3 (upd H3 nb (.lst [])) := Ex.new hnb
      have hD4 := x2 _ _ hD3
      have e4 := (e.trans x1).trans x2
      have nbH : H nb = none := fresh_back (e.trans x1) hnb
      have nbD : nb ≠ D := fun z => by
        rw [z, hD3] at hnb
        cases hnb
      have tl := tab_len L.len
      have rl := roots_len (p := p) (i := i)
      refine .inl ⟨_, Sum.inl (itm p (i + 1) : Int), hD4, rfl, ?_, fun v hv => ?_, fun hv => ?_⟩
      · rw [tl]
        have : 4097 < sizeLine := by decide
        omega
      · by_cases hr : itm p (i + 1) ∈ rootsN p i
        · obtain ⟨j, b, hj, hb, hv2⟩ := tab_some L.len hr
          rw [hv2] at hv
          obtain rfl := Option.some.inj hv
          obtain ⟨c1, c2, c3⟩ := L.at_ j _ b hj hb
          have c4 := x2 _ _ (x1 _ _ c1)
          have ne : itm p (i + 1) ≠ i + 1 := fun z => by
            have := (roots_mem.mp hr).1
            omega
          refine ⟨.inl ⟨rfl, _, sq_of c4⟩, _, rfl, b, _, _, rfl, rfl, c4, ?_, _, _, bs, rfl, e4.mut c2, ?_⟩
          · rw [nvs_len]
            have := cell_len (p := p) (i := i) (r := itm p (i + 1))
            have : 4097 < sizeLine := by decide
            omega
          · refine ⟨by rw [roots_same ne]; exact L.len, L.nd, ?_, fun j2 r2 b2 hj2 hb2 => ?_⟩
            · rw [roots_same ne, upd_ne (fun z => c3 z.symm)]
              exact hD4
            · rw [roots_same ne] at hj2
              obtain ⟨d1, d2, d3⟩ := L.at_ j2 r2 b2 hj2 hb2
              refine ⟨?_, d2, d3⟩
              by_cases hjj : j2 = j
              · subst hjj
                rw [hj] at hj2
                rw [hb] at hb2
                cases hj2
                cases hb2
                rw [upd_same, cell_more]
                unfold nvs
                rw [List.map_append]
                rfl
              · have hbb : b2 ≠ b := fun z => by
                  subst z
                  exact hjj ((List.getElem?_inj (List.getElem?_eq_some_iff.mp hb2).1 L.nd).mp (hb2.trans hb.symm))
                have hrr : itm p (i + 1) ≠ r2 := fun z => by
                  subst z
                  exact hjj ((List.getElem?_inj (List.getElem?_eq_some_iff.mp hj2).1 (roots_nodup p i)).mp (hj2.trans hj.symm))
                rw [upd_ne hbb, cell_same hrr]
                exact x2 _ _ (x1 _ _ d1)
        · rw [tab_none hr] at hv
          cases hv
      · have hr : itm p (i + 1) ∉ rootsN p i := fun hr => by
          obtain ⟨j, b, _, _, hv2⟩ := tab_some L.len hr
          rw [hv2] at hv
          cases hv
        have eq1 : itm p (i + 1) = i + 1 := by
          by_cases z : itm p (i + 1) ≤ i
          · exact absurd (roots_mem.mpr ⟨⟨lo.1, z⟩, rt⟩) hr
          · omega
        rw [putK_new _ hv]
        have hcell : cellN p (i + 1) (i + 1) = [i + 1] := by
          have h1 := cell_more (p := p) (i := i)
          have h0 : cellN p i (i + 1) = [] := cell_none fun x q1 q2 z => by
            have := (hP.lo x q1 (by omega)).2
            omega
          rw [eq1, h0] at h1
          exact h1
        have h5 : ∀ {ob}, (upd (upd H3 nb (.lst [])) D ob) nb = some (.lst []) := (upd_ne nbD).trans upd_same
        refine ⟨.inl ⟨rfl, _, sq_of h5⟩, _, rfl, nb, _, _, rfl, rfl, h5, by show 0 < sizeLine; decide, _, _, bs ++ [nb], rfl, (e4.mut nD).mut nbH, ?_⟩
        refine ⟨by rw [roots_more eq1, List.length_append, List.length_append, L.len]; rfl, ?_, ?_, fun j2 r2 b2 hj2 hb2 => ?_⟩
        · refine List.nodup_append.mpr ⟨L.nd, by simp, fun x hx y hy z => ?_⟩
          rw [List.mem_singleton.mp hy] at z
          subst z
          obtain ⟨j, hj⟩ := List.getElem?_of_mem hx
          have hjl := (List.getElem?_eq_some_iff.mp hj).1
          have d1 := (L.at_ j _ _ (List.getElem?_eq_getElem (by rw [← L.len]; exact hjl)) hj).1
          rw [x1 _ _ d1] at hnb
          cases hnb
        · rw [upd_ne (fun z => nbD z.symm), upd_same, roots_more eq1, tab_snoc L.len, eq1]
        · rw [roots_more eq1] at hj2
          by_cases hjl : j2 < bs.length
          · rw [List.getElem?_append_left hjl] at hb2
            rw [List.getElem?_append_left (by rw [← L.len]; exact hjl)] at hj2
            obtain ⟨d1, d2, d3⟩ := L.at_ j2 r2 b2 hj2 hb2
            have hbb : b2 ≠ nb := fun z => by
              rw [z] at d1
              rw [x1 _ _ d1] at hnb
              cases hnb
            have hrr : itm p (i + 1) ≠ r2 := fun z => by
              have := (roots_mem.mp (List.mem_of_getElem? hj2)).1
              omega
            refine ⟨?_, d2, d3⟩
            rw [upd_ne hbb, upd_ne d3, cell_same hrr]
            exact x2 _ _ (x1 _ _ d1)
          · have l1 := (List.getElem?_eq_some_iff.mp hb2).1
            rw [List.length_append] at l1
            have l2 : j2 = bs.length := by
              simp at l1
              omega
            subst l2
            rw [List.getElem?_append_right (Nat.le_refl _), Nat.sub_self] at hb2
            rw [List.getElem?_append_right (by rw [L.len]; exact Nat.le_refl _), L.len, Nat.sub_self] at hj2
            cases hb2
            cases hj2
            refine ⟨?_, nbH, nbD⟩
            rw [upd_same, hcell]
            rfl
    · obtain ⟨y2, y3, bs, rfl, e, L⟩ := hp
      rw [nvs_len, hP.len] at L
      refine ⟨D, _, L.tab, trivial, fun od => ?_⟩
      have tl := tab_len L.len
      have rl := roots_len (p := p) (i := n)
      have lt : 4097 < sizeLine := by decide
      refine ⟨_, rfl, D, od, _, rfl, upd_same, fun R nR => ?_⟩
      have nRD : R ≠ D := fun z => by
        rw [z, upd_same] at nR
        cases nR
      have nR0 : H R = none := fresh_back e (by rw [← nR, upd_ne nRD])
      refine lc_it walk_values (fun i H6 => Ex (upd H' D (.frz od (.dK (tabN (rootsN p n) bs)))) H6 ∧ ∃ us, H6 R = some (.lst us) ∧ us.length = i ∧ Rws H6 us (((rootsN p n).take i).map (cellN p n))) ⟨Ex.new nR, [], upd_same, rfl, rfl, fun i u hu => by cases hu⟩ (fun i H6 _ hp => hp.1 _ _ upd_same) (fun i v H6 H7 hi hp hy => ?_) (fun H6 hp => ?_)
      · obtain ⟨e6, us, h6, hl6, hr6⟩ := hp
        obtain ⟨rfl, k, hk⟩ := hy
        rw [tl] at hi
        unfold tabN at hk
        rw [List.getElem?_map] at hk
        obtain ⟨⟨r, b⟩, hrb, hk⟩ := Option.map_eq_some_iff.mp hk
        cases hk
        obtain ⟨hr, hb⟩ := List.getElem?_zip_eq_some.mp hrb
        obtain ⟨d1, d2, d3⟩ := L.at_ i r b hr hb
        have d4 := e6 _ _ ((upd_ne d3).trans d1)
        refine ⟨rfl, _, rfl, b, _, rfl, .inl ⟨sq_of d4, fun t nt => ?_⟩⟩
        have x7 := Ex.new (o := .tup (nvs (cellN p n r))) nt
        have nRt : R ≠ t := fun z => by
          rw [← z, h6] at nt
          cases nt
        refine ⟨us, x7 _ _ h6, by omega, (e6.trans x7).mut nR, us ++ [.ref t], upd_same, by rw [List.length_append, hl6]; rfl, ?_, fun j u hj => ?_⟩
        · rw [List.length_append, List.length_map, List.length_take, hl6]
          show i + 1 = _
          omega
        · by_cases hji : j < us.length
          · rw [List.getElem?_append_left hji] at hj
            obtain ⟨t2, c, h1, h2, h3⟩ := hr6.2 j u hj
            refine ⟨t2, c, h1, ?_, ?_⟩
            · rw [List.take_add_one, List.map_append, List.getElem?_append_left (by rw [← hr6.1]; exact hji)]
              exact h2
            · rw [upd_ne fun z => by rw [z, h6] at h3; cases h3]
              exact x7 _ _ h3
          · have l1 := (List.getElem?_eq_some_iff.mp hj).1
            rw [List.length_append] at l1
            have l2 : j = us.length := by
              simp at l1
              omega
            subst l2
            rw [List.getElem?_append_right (Nat.le_refl _), Nat.sub_self] at hj
            cases hj
            refine ⟨t, cellN p n r, rfl, ?_, ?_⟩
            · rw [List.take_add_one, List.map_append, List.getElem?_append_right (by rw [← hr6.1]; exact Nat.le_refl _), hr6.1, Nat.sub_self, hr]
              rfl
            · rw [upd_ne nRt.symm]
              exact upd_same
      · obtain ⟨e6, us, h6, hl6, hr6⟩ := hp
        rw [tl, List.take_of_length_le (Nat.le_refl _)] at hr6
        refine ⟨e6 _ _ upd_same, q R us _ (fun x o hx => ?_) nR0 ((upd_ne nRD).trans h6) ⟨hr6.1, fun i u hu => ?_⟩⟩
        · have nx : x ≠ D := fun z => by
            rw [z, nD] at hx
            cases hx
          rw [upd_ne nx]
          exact e6 _ _ ((upd_ne nx).trans (e _ _ hx))
        · obtain ⟨t2, c, h1, h2, h3⟩ := hr6.2 i u hu
          refine ⟨t2, c, h1, h2, ?_⟩
          rw [upd_ne fun z => by rw [z, e6 _ _ upd_same] at h3; cases h3]
          exact h3
end
end Eyes

set_option Elab.async false
set_option linter.all false
set_option maxRecDepth 100000
set_option maxHeartbeats 4000000
namespace Eyes
open PySem PySem.Spec PyProof.Rows L2 Evl TL
/-! ### the law's own words about partings -/
def Err3 (AA : Adr) (cls : Value) (n f : Str) : Prop := (cls = .ref AA.InvalidNumber ∧ n = "InvalidNumber" ∧ f = "value") ∨ (cls = .ref AA.InvalidTie ∧ n = "InvalidTie" ∧ f = "at") ∨ (cls = .ref AA.InvalidParting ∧ n = "InvalidParting" ∧ f = "value")
def Told3 (AA : Adr) (Q : VK) : XK := fun cls d H1 => ∃ (n f : Str) (dd : Addr) (v : V), Err3 AA cls n f ∧ d = some dd ∧ H1 dd = some (.xd [(f, v)]) ∧ ∀ p1 p2 H', Ex H1 H' → H' p1 = some (.tup [v]) → H' p2 = some (.tup [.str n, .ref p1]) → Q (.ref p2) H'
def tTry3 (AA : Adr) : (XK → Hp → VK → Prop) → Hp → VK → Prop := fun tl H Q => ∃ (E1 : XK) (Q1 : VK), tl E1 H Q1 ∧ (∀ v H1, Q1 v H1 → ∀ p H', Ex H1 H' → H' p = some (.tup [.str "", v]) → Q (.ref p) H') ∧ ∀ cls d H1, E1 cls d H1 → Told3 AA Q cls d H1
def tWhy3 (AA : Adr) : (XK → Hp → VK → Prop) → Hp → VK → Prop := fun tl H Q => ∃ (E1 : XK) (Q1 : VK), tl E1 H Q1 ∧ (∀ v H1, Q1 v H1 → ∀ p1 p2 H', Ex H1 H' → H' p1 = some (.tup []) → H' p2 = some (.tup [.str "", .ref p1]) → Q (.ref p2) H') ∧ ∀ cls d H1, E1 cls d H1 → Told3 AA Q cls d H1
section
variable {P : Program} {w : World} {K : PySem.W.Frag} {mg : Str → Option Value} {base : Heap} {AA : Adr}
theorem ok_law_try3 (T : Txt K mg AA) : PrC P w K mg base "_law_try" 10 12 (tTry3 AA) := by
  refine prC_mk T.f_law_try sc_law_try (fun g cdg A outer s H f c' q tl Q hr C hc ht => ?_)
  refine ⟨_, pss_one (ps_tryAs rfl rfl sc_law_try.nd (fun W pn xe tk po => pss_one (ps_ret (pe_tup (pa_cons pe_str (pa_cons (pe_ask2 (CXg := C8.CX0) (Eg := C8.E0) (i := 0) C tk (hr.mono (by decide)) rfl (.inl rfl)) pa_nil))))) (.cons (j := 1) ⟨rfl, by decide, .inl T.e_InvalidName.gC⟩ rfl rfl (fun e oe cls d pn hz hd => pss_one (ps_ret (pe_tup (pa_cons pe_str (pa_cons (pe_tup (pa_cons (pe_xf T.e_InvalidName.xf T.a_InvalidName_value hz hd (pv 1)) pa_nil)) pa_nil)))))
        (.cons (j := 1) ⟨rfl, by decide, .inl T.e_InvalidNumber.gC⟩ rfl rfl (fun e oe cls d pn hz hd => pss_one (ps_ret (pe_tup (pa_cons pe_str (pa_cons (pe_tup (pa_cons (pe_xf T.e_InvalidNumber.xf T.a_InvalidNumber_value hz hd (pv 1)) pa_nil)) pa_nil)))))
        (.cons (j := 1) ⟨rfl, by decide, .inl T.e_InvalidText.gC⟩ rfl rfl (fun e oe cls d pn hz hd => pss_one (ps_ret (pe_tup (pa_cons pe_str (pa_cons (pe_tup (pa_cons (pe_xf T.e_InvalidText.xf T.a_InvalidText_at hz hd (pv 1)) pa_nil)) pa_nil)))))
        (.cons (j := 1) ⟨rfl, by decide, .inl T.e_InvalidCircle.gC⟩ rfl rfl (fun e oe cls d pn hz hd => pss_one (ps_ret (pe_tup (pa_cons pe_str (pa_cons (pe_tup (pa_cons (pe_xf T.e_InvalidCircle.xf T.a_InvalidCircle_at hz hd (pv 1)) pa_nil)) pa_nil)))))
        (.cons (j := 1) ⟨rfl, by decide, .inl T.e_InvalidTie.gC⟩ rfl rfl (fun e oe cls d pn hz hd => pss_one (ps_ret (pe_tup (pa_cons pe_str (pa_cons (pe_tup (pa_cons (pe_xf T.e_InvalidTie.xf T.a_InvalidTie_at hz hd (pv 1)) pa_nil)) pa_nil)))))
        (.cons (j := 1) ⟨rfl, by decide, .inl T.e_InvalidParting.gC⟩ rfl rfl (fun e oe cls d pn hz hd => pss_one (ps_ret (pe_tup (pa_cons pe_str (pa_cons (pe_tup (pa_cons (pe_xf T.e_InvalidParting.xf T.a_InvalidParting_value hz hd (pv 1)) pa_nil)) pa_nil)))))
        (.cons (j := 1) ⟨rfl, by decide, .inl T.e_InvalidCase.gC⟩ rfl rfl (fun e oe cls d pn hz hd => pss_one (ps_ret (pe_tup (pa_cons pe_str (pa_cons (pe_tup (pa_cons (pe_xf T.e_InvalidCase.xf T.a_InvalidCase_value hz hd (pv 1)) pa_nil)) pa_nil)))))
        (.cons (j := 1) ⟨rfl, by decide, .inl T.e_TooMany.gC⟩ rfl rfl (fun e oe cls d pn hz hd => pss_one (ps_ret (pe_tup (pa_cons pe_str (pa_cons (pe_tup (pa_cons (pe_xf T.e_TooMany.xf T.a_TooMany_what hz hd (pv 1)) (pa_cons (pe_xf T.e_TooMany.xf T.a_TooMany_most hz hd (pv 1)) pa_nil))) pa_nil)))))
        HdsAs.rest))))))))), ?_⟩
  obtain ⟨E1, Q1, ht, hQ, hE⟩ := ht
  refine ⟨rfl, hc, _, _, ht, fun v H1 h => ⟨by show 2 ≤ sizeLine; decide, fun p hp => hQ v H1 h p _ (Ex.new hp) upd_same⟩, fun cls d H1 h => ?_⟩
  obtain ⟨n, f, dd, v, he, rfl, hx, h⟩ := hE _ _ _ h
  have fin : ∀ p1, H1 p1 = none → ∀ p2, upd H1 p1 (.tup [v]) p2 = none → Q (.ref p2) (upd (upd H1 p1 (.tup [v])) p2 (.tup [.str n, .ref p1])) := fun p1 hp1 p2 hp2 => h p1 p2 _ ((Ex.new hp1).trans (Ex.new hp2)) (Ex.new hp2 _ _ upd_same) upd_same
  rcases he with ⟨rfl, rfl, rfl⟩ | ⟨rfl, rfl, rfl⟩ | ⟨rfl, rfl, rfl⟩
  · refine ⟨_, T.x_InvalidNumber_InvalidName, fun z => (nomatch z), fun _ => ⟨_, T.x_InvalidNumber_InvalidNumber, fun _ e he => ?_, fun z => (nomatch z)⟩⟩
    exact ⟨_, rfl, rfl, rfl, dd, _, v, rfl, hx, rfl, by show 1 ≤ sizeLine; decide, fun p1 hp1 => ⟨by show 2 ≤ sizeLine; decide, fun p2 hp2 => fin p1 hp1 p2 hp2⟩⟩
  · refine ⟨_, T.x_InvalidTie_InvalidName, fun z => (nomatch z), fun _ => ⟨_, T.x_InvalidTie_InvalidNumber, fun z => (nomatch z), fun _ => ⟨_, T.x_InvalidTie_InvalidText, fun z => (nomatch z), fun _ => ⟨_, T.x_InvalidTie_InvalidCircle, fun z => (nomatch z), fun _ => ⟨_, T.x_InvalidTie_InvalidTie, fun _ e he => ?_, fun z => (nomatch z)⟩⟩⟩⟩⟩
    exact ⟨_, rfl, rfl, rfl, dd, _, v, rfl, hx, rfl, by show 1 ≤ sizeLine; decide, fun p1 hp1 => ⟨by show 2 ≤ sizeLine; decide, fun p2 hp2 => fin p1 hp1 p2 hp2⟩⟩
  · refine ⟨_, T.x_InvalidParting_InvalidName, fun z => (nomatch z), fun _ => ⟨_, T.x_InvalidParting_InvalidNumber, fun z => (nomatch z), fun _ => ⟨_, T.x_InvalidParting_InvalidText, fun z => (nomatch z), fun _ => ⟨_, T.x_InvalidParting_InvalidCircle, fun z => (nomatch z), fun _ => ⟨_, T.x_InvalidParting_InvalidTie, fun z => (nomatch z), fun _ => ⟨_, T.x_InvalidParting_InvalidParting, fun _ e he => ?_, fun z => (nomatch z)⟩⟩⟩⟩⟩⟩
    exact ⟨_, rfl, rfl, rfl, dd, _, v, rfl, hx, rfl, by show 1 ≤ sizeLine; decide, fun p1 hp1 => ⟨by show 2 ≤ sizeLine; decide, fun p2 hp2 => fin p1 hp1 p2 hp2⟩⟩
theorem ok_law_why3 (T : Txt K mg AA) : PrC P w K mg base "_law_why" 10 13 (tWhy3 AA) := by
  refine prC_mk T.f_law_why sc_law_why (fun g cdg A outer s H f c' q tl Q hr C hc ht => ?_)
  refine ⟨_, pss_cons (ps_set (i := 1) sc_law_why.nd rfl (.inl rfl) (pe_hand (CXg := C8.CX0) (Eg := C8.E0) (i := 0) (ok_law_try3 T) C hr rfl (.inl rfl))) (pss_one (ps_ret (pe_ifExp (pt_cmpR op_ne (pe_ix (ix_tupK (K := K) rfl) (pv 1) pe_int (fun _ _ => rfl)) pe_str (nomark _)) (pv 1) (pe_tup (pa_cons pe_str (pa_cons (pe_tup pa_nil) pa_nil)))))), ?_⟩
  obtain ⟨E1, Q1, ht, hQ, hE⟩ := ht
  refine ⟨rfl, hc, E1, Q1, ht, fun v H1 h p H2 e2 h2 => ?_, fun cls d H1 h => ?_⟩
  · refine ⟨_, rfl, p, _, 0, _, rfl, rfl, st_of h2, rfl, rfl, _, rfl, ?_⟩
    refine iteF ?_
    refine ⟨by show 0 ≤ sizeLine; decide, fun p1 hp1 => ⟨by show 2 ≤ sizeLine; decide, fun p2 hp2 => ?_⟩⟩
    exact hQ v H1 h p1 p2 _ (e2.trans ((Ex.new hp1).trans (Ex.new hp2))) (Ex.new hp2 _ _ upd_same) upd_same
  · obtain ⟨n, f, dd, v, he, hd, hx, h⟩ := hE _ _ _ h
    refine ⟨n, f, dd, v, he, hd, hx, fun p1 p2 H2 e2 h1 h2 => ?_⟩
    have hn : n ≠ "" := by
      rcases he with ⟨_, rfl, _⟩ | ⟨_, rfl, _⟩ | ⟨_, rfl, _⟩ <;> decide +kernel
    refine ⟨_, rfl, p2, _, 0, _, rfl, rfl, st_of h2, rfl, rfl, _, rfl, ?_⟩
    have hd : decide (V.str n = V.str (Str.ofString "")) = false := decide_eq_false fun z => hn (V.str.inj z)
    rw [hd]
    exact iteT ⟨_, rfl, h p1 p2 _ e2 h1 h2⟩
theorem ok_law_is_case (T : Txt K mg AA) : Pr P w K mg base "_law_is_case" s_law_is_case p_law_is_case 1 (fun vs H Q _ => ∃ (v : V) (d : PyData) (n : Int), vs = [v, .int n] ∧ Rep H v d ∧ Q (.bl (numD d 1 n)) H) := by
  refine pr_mk T.f_law_is_case sc_law_is_case (fun vs H Q E h => ?_) (fun f cdv A outer s H vs Q E hr h => ?_)
  · obtain ⟨v, d, n, rfl, _⟩ := h
    rfl
  · obtain ⟨v, d, n, rfl, hv, q⟩ := h
    refine ⟨_, (pss_one (ps_ret (pe_and (pe_callB (call_isiK (K := K) rfl) (by rfl) T.n_isinstance PyProof.Rows.boot_isinstance (pa_cons (pv 0) (pa_cons (pe_bltn (v := .ty "int") (by rfl) T.n_int (by decide +kernel) rfl) pa_nil))) (pe_and (pe_not (pe_callB (call_isiK (K := K) rfl) (by rfl) T.n_isinstance PyProof.Rows.boot_isinstance (pa_cons (pv 0) (pa_cons (pe_bltn (v := .ty "bool") (by rfl) T.n_bool (by decide +kernel) rfl) pa_nil)))) (pe_and (pe_cmpR op_ge (pv 0) pe_int (nomark _)) (pe_one (pe_cmpR op_le (pv 0) (pv 1) (nomark _)))))))), ?_⟩
    cases d with
    | int i =>
      cases hv
      refine ⟨_, rfl, .int i, .ty "int", _, _, true, rfl, .ty _, (Rep.int (H := H) i).ty, kit_ty (a := "int") (by decide +kernel), _, rfl, iteT ⟨_, rfl, .int i, .ty "bool", _, _, false, rfl, .ty _, (Rep.int (H := H) i).ty, kit_ty (a := "int") (by decide +kernel), _, rfl, _, rfl, iteT ?_⟩⟩
      have q : Q (V.bl (decide (1 ≤ i) && decide (i ≤ n))) H := q
      refine ⟨_, rfl, i, 1, rfl, rfl, _, rfl, ite2 (fun h1 => ?_) (fun h1 => ?_)⟩
      · rw [h1] at q
        exact ⟨_, rfl, _, rfl, i, n, rfl, rfl, q⟩
      · rw [show decide (1 ≤ i) = false by cases e : decide (1 ≤ i) with | true => exact absurd e h1 | false => rfl] at q
        exact q
    | bool z =>
      cases hv
      exact ⟨_, rfl, .bl z, .ty "int", _, _, true, rfl, .ty _, (Rep.bl (H := H) z).ty, kit_ty (a := "bool") (by decide +kernel), _, rfl, iteT ⟨_, rfl, .bl z, .ty "bool", _, _, true, rfl, .ty _, (Rep.bl (H := H) z).ty, kit_ty (a := "bool") (by decide +kernel), _, rfl, _, rfl, iteF q⟩⟩
    | none => exact ⟨_, rfl, v, .ty "int", _, _, false, rfl, .ty _, hv.ty, kit_ty (a := "NoneType") (by decide +kernel), _, rfl, iteF q⟩
    | str z => exact ⟨_, rfl, v, .ty "int", _, _, false, rfl, .ty _, hv.ty, kit_ty (a := "str") (by decide +kernel), _, rfl, iteF q⟩
    | list z => exact ⟨_, rfl, v, .ty "int", _, _, false, rfl, .ty _, hv.ty, kit_ty (a := "list") (by decide +kernel), _, rfl, iteF q⟩
    | tuple z => exact ⟨_, rfl, v, .ty "int", _, _, false, rfl, .ty _, hv.ty, kit_ty (a := "tuple") (by decide +kernel), _, rfl, iteF q⟩
    | dict z => exact ⟨_, rfl, v, .ty "int", _, _, false, rfl, .ty _, hv.ty, kit_ty (a := "dict") (by decide +kernel), _, rfl, iteF q⟩
theorem ok_law_is_rows (T : Txt K mg AA) : Pr P w K mg base "_law_is_rows" s_law_is_rows p_law_is_rows 2 (fun vs H Q _ => ∃ (v : V) (d : PyData), vs = [v] ∧ Rep H v d ∧ okV d ∧ Q (.bl (partD d)) H) := by
  refine pr_mk T.f_law_is_rows sc_law_is_rows (fun vs H Q E h => ?_) (fun f cdv A outer s H vs Q E hr h => ?_)
  · obtain ⟨v, d, rfl, _⟩ := h
    rfl
  · obtain ⟨v, d, rfl, hv, ho, q⟩ := h
    refine ⟨_, (pss_cons (ps_if (PW.pt (pw_or (pt_not (pt_val (pe_callB (call_isiK (K := K) rfl) (by rfl) T.n_isinstance PyProof.Rows.boot_isinstance (pa_cons (pv 0) (pa_cons (pe_bltn (v := .ty "tuple") (by rfl) T.n_tuple (by decide +kernel) rfl) pa_nil))))) (pw_or1 (pt_cmpR op_eq (pe_callB (call_len_seqK (K := K) rfl) (by rfl) T.n_len PySem.boot_len (pa_cons (pv 0) pa_nil)) pe_int (nomark _)))))
      (pss_one (ps_ret pe_bl))
      pss_nil)
      (pss_cons (ps_for PassesOwn.never rfl (pi_range1 (by rfl) T.n_range (pa_cons (pe_callB (call_len_seqK (K := K) rfl) (by rfl) T.n_len PySem.boot_len (pa_cons (pv 0) pa_nil)) pa_nil)) (pg_name (i := 1) sc_law_is_rows.nd rfl (.inl rfl))
      (pss_one (ps_if (PW.pt (pw_or (pt_not (pt_val (pcall (ok_law_is_case T) hr (pa_cons (pe_ix (ix_tupK (K := K) rfl) (pv 0) (pv 1) (fun _ _ => rfl)) (pa_cons (pe_op op_add (pv 1) pe_int) pa_nil))))) (pw_or1 (pt_cmpR (op_neD hr.units) (pe_ix (ix_tupK (K := K) rfl) (pv 0) (pe_op op_sub (pe_ix (ix_tupK (K := K) rfl) (pv 0) (pv 1) (fun _ _ => rfl)) pe_int) (fun _ _ => rfl)) (pe_ix (ix_tupK (K := K) rfl) (pv 0) (pv 1) (fun _ _ => rfl)) (nomark _)))))
      (pss_one (ps_ret pe_bl))
      pss_nil)))
      (pss_one (ps_ret pe_bl)))), ?_⟩
    cases d with
    | tuple ds =>
      obtain ⟨hl, hsh⟩ := ho.part
      cases hv with
      | @tup a xs _ hx hR =>
      have hlen := hR.length
      refine ⟨_, rfl, .ref a, .ty "tuple", _, _, true, rfl, .ty _, (Rep.tup hx hR).ty, kit_ty (a := "tuple") (by decide +kernel), _, rfl, iteF ?_⟩
      refine ⟨_, rfl, a, xs, rfl, .inr (st_of hx), rfl, _, rfl, ite2 (fun h0 => ?_) (fun h0 => ?_)⟩
      · have h1 : V.int (xs.length : Int) = V.int 0 := of_decide_eq_true h0
        injection h1 with h1
        have h2 : ds = [] := List.length_eq_zero_iff.mp (by omega)
        rw [h2] at q
        exact q
      · have h2 : ds ≠ [] := fun z => h0 (by
          rw [z] at hlen
          rw [hlen]
          rfl)
        have hpd : partD (.tuple ds) = (List.range xs.length).all fun k => itemD ds k := by
          show (decide (ds ≠ []) && _) = _
          rw [decide_eq_true h2, Bool.true_and, hlen]
        refine ⟨_, rfl, a, xs, rfl, .inr (st_of hx), _, rfl, by omega, by omega, ?_⟩
        rw [show ((xs.length : Nat) : Int).toNat = xs.length by omega]
        refine for_it walk_range (fun i σ H' => H' = H ∧ (∃ y, σ = [some (.ref a), y]) ∧ ∀ j, j < i → itemD ds j = true) ⟨rfl, ⟨none, rfl⟩, fun j hj => absurd hj (Nat.not_lt_zero _)⟩ (fun _ _ _ _ _ => trivial) (fun i v σ H3 H4 hi hp hy => ?_) (fun σ H' hp => ?_)
        · obtain ⟨rfl, ⟨y, rfl⟩, hpre⟩ := hp
          obtain ⟨rfl, rfl⟩ := hy
          obtain ⟨d, hd, hv⟩ := hR.get (List.getElem?_eq_getElem hi)
          have hxi : xs[i]? = some xs[i] := List.getElem?_eq_getElem hi
          generalize xs[i] = v at hv hxi
          have z0 : (0 : Int) + (i : Int) = (i : Int) := Int.zero_add _
          have hat : atI xs (0 + (i : Int)) = some v := by
            rw [z0]
            exact atI_nat hxi
          have stop : itemD ds i = false → Q (.bl false) H4 := fun hf => by
            have : partD (.tuple ds) = false := by
              rw [hpd, ← Bool.not_eq_true, List.all_eq_true]
              intro hall
              have := hall i (List.mem_range.mpr hi)
              rw [hf] at this
              cases this
            rw [this] at q
            exact q
          have next : itemD ds i = true → (H4 = H4 ∧ (∃ y, [some (V.ref a), some (V.int (0 + (i : Int)))] = [some (V.ref a), y]) ∧ ∀ j, j < i + 1 → itemD ds j = true) := fun ht => ⟨rfl, ⟨_, rfl⟩, fun j hj => by
            rcases Nat.lt_or_ge j i with z | z
            · exact hpre j z
            · obtain rfl : j = i := by omega
              exact ht⟩
          refine ⟨_, rfl, _, rfl, a, _, _, v, rfl, rfl, st_of hx, hat, _, rfl, _, 1, rfl, rfl, v, d, _, rfl, hv, ?_⟩
          rw [z0]
          cases hn : numD d 1 ((i : Int) + 1) with
          | false => exact ⟨_, rfl, iteT (iteT (stop (itemD_no hd hn)))⟩
          | true =>
            cases d with
            | int m =>
              cases hv
              have hm : 1 ≤ m ∧ m ≤ (i : Int) + 1 := by
                have h : (decide (1 ≤ m) && decide (m ≤ (i : Int) + 1)) = true := hn
                rw [Bool.and_eq_true] at h
                exact ⟨of_decide_eq_true h.1, of_decide_eq_true h.2⟩
              have hj : (m - 1).toNat < xs.length := by omega
              obtain ⟨e, he, hve⟩ := hR.get (List.getElem?_eq_getElem hj)
              have hxe : xs[(m - 1).toNat]? = some xs[(m - 1).toNat] := List.getElem?_eq_getElem hj
              generalize xs[(m - 1).toNat] = v2 at hve hxe
              have hit := itemD_int hd hn he
              refine ⟨_, rfl, iteF ?_⟩
              refine ⟨_, rfl, _, rfl, _, rfl, a, _, _, .int m, rfl, rfl, st_of hx, hat, m, 1, rfl, rfl, a, _, _, v2, rfl, rfl, st_of hx, at_of' (by omega) hxe, _, rfl, _, rfl, a, _, _, .int m, rfl, rfl, st_of hx, hat, ?_⟩
              refine ⟨e, .int m, hve.dp, .int m, hsh e (List.mem_of_getElem? he), rfl, _, rfl, ?_⟩
              cases hq : PyData.eqv e (.int m) with
              | true => exact iteF (next (by rw [hit, hq]))
              | false => exact iteT (stop (by rw [hit, hq]))
            | _ => cases hn
        · obtain ⟨rfl, ⟨y, rfl⟩, hpre⟩ := hp
          have : partD (.tuple ds) = true := by
            rw [hpd, List.all_eq_true]
            exact fun j hj => hpre j (List.mem_range.mp hj)
          rw [this] at q
          exact q
    | none => exact ⟨_, rfl, v, .ty "tuple", _, _, false, rfl, .ty _, hv.ty, kit_ty (a := "NoneType") (by decide +kernel), _, rfl, iteT (iteT q)⟩
    | bool z => exact ⟨_, rfl, v, .ty "tuple", _, _, false, rfl, .ty _, hv.ty, kit_ty (a := "bool") (by decide +kernel), _, rfl, iteT (iteT q)⟩
    | int z => exact ⟨_, rfl, v, .ty "tuple", _, _, false, rfl, .ty _, hv.ty, kit_ty (a := "int") (by decide +kernel), _, rfl, iteT (iteT q)⟩
    | str z => exact ⟨_, rfl, v, .ty "tuple", _, _, false, rfl, .ty _, hv.ty, kit_ty (a := "str") (by decide +kernel), _, rfl, iteT (iteT q)⟩
    | list z => exact ⟨_, rfl, v, .ty "tuple", _, _, false, rfl, .ty _, hv.ty, kit_ty (a := "list") (by decide +kernel), _, rfl, iteT (iteT q)⟩
    | dict z => exact ⟨_, rfl, v, .ty "tuple", _, _, false, rfl, .ty _, hv.ty, kit_ty (a := "dict") (by decide +kernel), _, rfl, iteT (iteT q)⟩
end
end Eyes

set_option Elab.async false
set_option linter.all false
set_option maxRecDepth 100000
set_option maxHeartbeats 4000000
namespace Eyes
open PySem PySem.Spec PyProof.Rows L2 Evl TL
theorem mt_indexDK {X : Cx} {K : PySem.W.Frag} (hK : X.K = K) (hu : X.A.units + 65 < cLine) : MtR X "list.index" (rIndexD K) := hK ▸ mt_indexD hu
section
variable {X : Cx} {K : PySem.W.Frag} {o e : Expr} {es : List Expr} {to : TE} {t : TA} {name : Str} {apos cpos : Pos} {T id : String} {r : V → List V → Hp → VK → Prop}
theorem pe_bmN (hK : X.K = K) (pa : PlainAttrs T) (slot : Slot T name id) (hty : typeOf (.builtin id) = pure (.type "method_descriptor")) (hm : MtR X id r) (ho : PE X o to) (ha : PA X (e :: es) t)
    (hbase : attributeBase o name X.env (eval o X.env) = eval o X.env := by rfl)
    (hfew : ((backTo cpos (starEach (e :: es) X.env)).all (fun x => !x.1) && (backToKw cpos (keywordEach [] X.env)).all (fun x => x.1.isSome) && decide ((e :: es).length + ([] : List Keyword).length + (if ([] : List Keyword).isEmpty then 0 else 1) < 30)) = true := by rfl)
    (hline : (apos.endLine == cpos.line) = true := by rfl) (hs : starEach (e :: es) X.env = (false, eval e X.env) :: starEach es X.env := by rfl) (hplain : (backTo cpos (starEach es X.env)).any (·.1) = false := by rfl) : PE X (.Call (.Attribute o name apos) (e :: es) [] cpos) (tBM K T r to t) := by
  subst hK
  exact pe_bm pa slot hty hm ho ha hbase hfew hline hs hplain
end
theorem isP_snoc {k v : Nat} {p : List Nat} (h : IsP k p) (hv : v = k + 1 ∨ v ∈ p) : IsP (k + 1) (p ++ [v]) := by
  have it : ∀ x, 1 ≤ x → x ≤ k → itm (p ++ [v]) x = itm p x := fun x h1 h2 => by
    unfold itm
    rw [List.getD_eq_getElem?_getD, List.getD_eq_getElem?_getD, List.getElem?_append_left (by rw [h.len]; omega)]
  have il : itm (p ++ [v]) (k + 1) = v := by
    unfold itm
    rw [List.getD_eq_getElem?_getD, List.getElem?_append_right (by rw [h.len]; omega), h.len, Nat.add_sub_cancel, Nat.sub_self]
    rfl
  have hm : v = k + 1 ∨ (1 ≤ v ∧ v ≤ k ∧ itm p v = v) := by
    rcases hv with e | hv
    · exact .inl e
    · obtain ⟨i, hi⟩ := List.getElem?_of_mem hv
      have hl := (List.getElem?_eq_some_iff.mp hi).1
      rw [h.len] at hl
      have e : itm p (i + 1) = v := by
        unfold itm
        rw [List.getD_eq_getElem?_getD, Nat.add_sub_cancel, hi]
        rfl
      have lo := h.lo (i + 1) (by omega) (by omega)
      have rt := h.rt (i + 1) (by omega) (by omega)
      rw [e] at lo rt
      exact .inr ⟨lo.1, by omega, rt⟩
  refine ⟨by rw [List.length_append, h.len]; rfl, fun x h1 h2 => ?_, fun x h1 h2 => ?_⟩
  · rcases Nat.lt_or_ge k x with z | z
    · obtain rfl : x = k + 1 := by omega
      rw [il]
      omega
    · rw [it x h1 z]
      exact h.lo x h1 z
  · rcases Nat.lt_or_ge k x with z | z
    · obtain rfl : x = k + 1 := by omega
      rw [il]
      rcases hm with e | ⟨e1, e2, e3⟩
      · rw [e]
        rw [e] at il
        exact il
      · rw [it v e1 e2]
        exact e3
    · rw [it x h1 z]
      have lo := h.lo x h1 z
      rw [it _ lo.1 (by omega)]
      exact h.rt x h1 z
theorem isP_nil : IsP 0 [] := ⟨rfl, fun x h1 h2 => absurd h1 (by omega), fun x h1 h2 => absurd h1 (by omega)⟩
def pairsD (p q : List Nat) (n : Nat) : List PyData := (List.range n).map fun k => .tuple [.int (itm p (k + 1) : Int), .int (itm q (k + 1) : Int)]
theorem eqv_pair {a b c d : Int} : PyData.eqv (.tuple [.int a, .int b]) (.tuple [.int c, .int d]) = (decide (a = c) && decide (b = d)) := by
  show ((a == c) && ((b == d) && true)) = _
  rw [Bool.and_true]
  rfl
mutual
theorem dp_mono {K : PySem.W.Frag} {H H' : Hp} (e : Ex H H') : ∀ {v : V} {d : PyData}, Dp K H v d → Dp K H' v d
  | _, _, .non => .non
  | _, _, .bl b => .bl b
  | _, _, .int i => .int i
  | _, _, .str x => .str x
  | _, _, .lst h r => .lst (ex_l e h) (dpAll_mono e r)
  | _, _, .tup h r => .tup (ex_t e h) (dpAll_mono e r)
theorem dpAll_mono {K : PySem.W.Frag} {H H' : Hp} (e : Ex H H') : ∀ {us : List V} {ds : List PyData}, DpAll K H us ds → DpAll K H' us ds
  | _, _, .nil => .nil
  | _, _, .cons h r => .cons (dp_mono e h) (dpAll_mono e r)
end
theorem dpAll_of {K : PySem.W.Frag} {H : Hp} : ∀ {us : List V} {ds : List PyData}, us.length = ds.length → (∀ (i : Nat) u d, us[i]? = some u → ds[i]? = some d → Dp K H u d) → DpAll K H us ds
  | [], [], _, _ => .nil
  | [], _ :: _, h, _ => by cases h
  | _ :: _, [], h, _ => by cases h
  | u :: us, d :: ds, h, f => .cons (f 0 u d rfl rfl) (dpAll_of (by simpa using h) fun i u d e1 e2 => f (i + 1) u d e1 e2)
theorem layAll_of : ∀ {ds : List PyData}, (∀ d ∈ ds, PyData.canLay0 d = true) → PyData.canLayAll0 ds = true
  | [], _ => rfl
  | d :: ds, h => by
    show (PyData.canLay0 d && PyData.canLayAll0 ds) = true
    rw [h d List.mem_cons_self, layAll_of fun e he => h e (List.mem_cons_of_mem _ he)]
    rfl
theorem depthAll_of {k : Nat} : ∀ {ds : List PyData}, (∀ d ∈ ds, d.depth ≤ k) → PyData.depthAll ds ≤ k
  | [], _ => Nat.zero_le _
  | d :: ds, h => by
    show max d.depth (PyData.depthAll ds) ≤ k
    have a := h d List.mem_cons_self
    have b := depthAll_of fun e he => h e (List.mem_cons_of_mem _ he)
    omega
theorem shaped_list {ds : List PyData} (h : ∀ d ∈ ds, PyData.canLay0 d = true ∧ d.depth ≤ 60) : SeqAt.shaped (.list ds) = true := by
  unfold SeqAt.shaped
  rw [show PyData.canLay0 (.list ds) = true from layAll_of fun d hd => (h d hd).1, decide_eq_true (show PyData.depth (.list ds) ≤ 64 by
    show PyData.depthAll ds + 1 ≤ 64
    have := depthAll_of fun d hd => (h d hd).2
    omega)]
  rfl
theorem pairsD_get {p q : List Nat} {n i : Nat} (h : i < n) : (pairsD p q n)[i]? = some (.tuple [.int (itm p (i + 1) : Int), .int (itm q (i + 1) : Int)]) := by
  unfold pairsD
  rw [List.getElem?_map, List.getElem?_range h]
  rfl
theorem pairsD_len {p q : List Nat} {n : Nat} : (pairsD p q n).length = n := by
  unfold pairsD
  rw [List.length_map, List.length_range]
theorem keysN_at {p q : List Nat} {n i : Nat} (h : i < n) : (keysN n [p, q])[i]? = some [itm p (i + 1), itm q (i + 1)] := keysN_get (x := i + 1) (by omega) (by omega)
theorem firsts_at {α : Type} [DecidableEq α] {ks : List α} {i : Nat} {k : α} (h : ks[i]? = some k) : ∃ j, ks[j]? = some k ∧ j ≤ i ∧ (firsts ks)[i]? = some (j + 1) ∧ ∀ m, ks[m]? = some k → j ≤ m :=
  ⟨ks.idxOf k, idx_get (List.mem_of_getElem? h), idx_le h, firsts_get h, fun m hm => idx_le hm⟩
def spMetL (K : PySem.W.Frag) : Sp := fun vs H Q _ => ∃ (n : Nat) (a b : Addr) (p q : List Nat), vs = [.ref a, .ref b] ∧ SqT K H a (nvs p) ∧ SqT K H b (nvs q) ∧ IsP n p ∧ IsP n q ∧ 1 ≤ n ∧ n ≤ 4096 ∧ ∀ r H', Ex H H' → H r = none → H' r = some (.tup (nvs (metN n [p, q]))) → Q (.ref r) H'
def spGroup (K : PySem.W.Frag) : Sp := fun vs H Q _ => ∃ (n x : Nat) (a : Addr) (p : List Nat), vs = [.ref a, .int x] ∧ SqT K H a (nvs p) ∧ IsP n p ∧ n ≤ 4096 ∧ 1 ≤ x ∧ x ≤ n ∧ ∀ r H', Ex H H' → H r = none → H' r = some (.tup (nvs (cellN p n (itm p x)))) → Q (.ref r) H'
section
variable {P : Program} {w : World} {K : PySem.W.Frag} {mg : Str → Option Value} {base : Heap} {AA : Adr}
theorem ok_law_met (T : Txt K mg AA) : Pr P w K mg base "_law_met" s_law_met p_law_met 1 (spMetL K) := by
  refine pr_mk T.f_law_met sc_law_met (fun vs H Q E h => ?_) (fun f cdv A outer s H vs Q E hr h => ?_)
  · obtain ⟨n, a, b, p, q, rfl, _⟩ := h
    rfl
  · obtain ⟨n, a, b, p, q, rfl, ha, hb, hP, hQ, h1, hn, qq⟩ := h
    refine ⟨_, (pss_cons (ps_set (i := 2) sc_law_met.nd rfl (.inr rfl) (pe_listZ rfl (by rfl) T.n_list (by rfl) T.n_zip (pa_cons (pv 0) (pa_cons (pv 1) pa_nil))))
      (pss_one (ps_ret (pe_callTy call_tuple_of (by rfl) T.n_tuple PyProof.Rows.boot_tuple (pa_cons (pe_lc (own := [("_law_x", 3)]) (g := gName 3) (tt := tYes) rfl sc_law_met.nd (pi_list (pv 2)) (blkOk_by (own := [("_law_x", 3)]) (N := n_law_met) (sc := defScope s_law_met) (by decide +kernel)) (fun _ _ _ _ _ => (pg_name (i := 3) sc_law_met.nd rfl (.inl rfl))) (fun _ _ _ _ _ => pts_nil) (fun _ _ _ _ _ => (pe_op op_add (pe_bmN (K := K) rfl PySem.F.plainAttrs_list PySem.F.slot_list_index PySem.F.type_list_index (mt_indexDK (K := K) rfl (u65 hr)) (pv 2) (pa_cons (pv 3) pa_nil)) pe_int))) pa_nil))))), ?_⟩
    refine ⟨_, rfl, _, rfl, a, b, rfl, nvs p, nvs q, ha, hb, by rw [nvs_len, nvs_len, hP.len, hQ.len], by rw [nvs_len, hP.len]; omega, by rw [nvs_len, hP.len]; omega, fun z us H2 e2 nz hz hus hel => ?_⟩
    rw [nvs_len, hP.len] at hus
    have hd : DpAll K H2 us (pairsD p q n) := dpAll_of (by rw [pairsD_len]; exact hus) fun i u d hu hdd => by
      have hi : i < n := by rw [← hus]; exact (List.getElem?_eq_some_iff.mp hu).1
      obtain ⟨t, ht, _, ht2⟩ := hel i _ _ (nvs_get (itm_get (x := i + 1) (by omega) (by rw [hP.len]; omega))) (nvs_get (itm_get (x := i + 1) (by omega) (by rw [hQ.len]; omega)))
      rw [hu] at ht
      cases ht
      rw [pairsD_get hi] at hdd
      cases hdd
      exact .tup (st_of ht2) (.cons (.int _) (.cons (.int _) .nil))
    have hsh : SeqAt.shaped (.list (pairsD p q n)) = true := shaped_list fun d hdd => by
      obtain ⟨i, hi⟩ := List.getElem?_of_mem hdd
      have hl := (List.getElem?_eq_some_iff.mp hi).1
      rw [pairsD_len] at hl
      rw [pairsD_get hl] at hi
      cases hi
      exact ⟨rfl, by show 1 ≤ 60; decide⟩
    refine ⟨_, rfl, z, rfl, ⟨us, sq_of hz⟩, fun D hD => ?_⟩
    refine lc_it (walk_list (xs := us)) (fun i H' => Ex H2 H' ∧ H' D = some (.lst (nvs ((metN n [p, q]).take i)))) ⟨Ex.new hD, upd_same⟩ (fun _ _ _ hp => ex_l hp.1 (sq_of hz)) (fun i v H3 H4 hi hp hy => ?_) (fun H' hp => ?_)
    · obtain ⟨rfl, hv⟩ := hy
      obtain ⟨e3, h3⟩ := hp
      rw [hus] at hi
      have hk := keysN_at (p := p) (q := q) hi
      obtain ⟨j, hix, hle, hfi, hmin⟩ := firsts_at hk
      have hj : j < n := by omega
      obtain ⟨t, ht, _, ht2⟩ := hel i _ _ (nvs_get (itm_get (x := i + 1) (by omega) (by rw [hP.len]; omega))) (nvs_get (itm_get (x := i + 1) (by omega) (by rw [hQ.len]; omega)))
      rw [hv] at ht
      cases ht
      have hDp : ∀ {us : List V} {ds : List PyData}, DpAll K H2 us ds → DpAll K H4 us ds := fun h => dpAll_mono e3 h
      refine ⟨rfl, _, rfl, .inl ⟨rfl, us, ex_l e3 (sq_of hz)⟩, _, rfl, z, .ref t, .tuple [.int (itm p (i + 1) : Int), .int (itm q (i + 1) : Int)], pairsD p q n, _, _, rfl, rfl, .lst (ex_l e3 (sq_of hz)) (hDp hd), .tup (ex_t e3 (st_of ht2)) (.cons (.int _) (.cons (.int _) .nil)), hsh, rfl, pairsD_get hj, ?_, fun m z' hm hz' => ?_, _, 1, rfl, rfl, _, h3, ?_, e3.mut hD, ?_⟩
      · rw [keysN_at hj] at hix
        injection Option.some.inj hix with a1 a2
        injection a2 with a2
        rw [eqv_pair, a1, a2, decide_eq_true rfl, decide_eq_true rfl]
        rfl
      · have hmn : m < n := by omega
        rw [pairsD_get hmn] at hz'
        cases hz'
        rw [eqv_pair, ← Bool.not_eq_true, Bool.and_eq_true, decide_eq_true_iff, decide_eq_true_iff]
        rintro ⟨b1, b2⟩
        have : (keysN n [p, q])[m]? = some [itm p (i + 1), itm q (i + 1)] := by
          rw [keysN_at hmn, show itm p (m + 1) = itm p (i + 1) by omega, show itm q (m + 1) = itm q (i + 1) by omega]
        have := hmin m this
        omega
      · rw [nvs_len, List.length_take]
        have : 4097 < sizeLine := by decide
        omega
      · rw [upd_same, List.take_add_one]
        have : (metN n [p, q])[i]? = some (j + 1) := hfi
        rw [this]
        unfold nvs
        rw [List.map_append]
        rfl
    · obtain ⟨e3, h3⟩ := hp
      rw [hus, List.take_of_length_le (by rw [(metN_isP n [p, q]).len]; exact Nat.le_refl _)] at h3
      have e4 := e2.trans e3
      exact ⟨D, _, rfl, .inl ⟨sq_of h3, fun r nr => qq r _ (e4.trans (Ex.new nr)) (fresh_back e4 nr) upd_same⟩⟩
theorem ok_law_group (T : Txt K mg AA) : Pr P w K mg base "_law_group" s_law_group p_law_group 1 (spGroup K) := by
  refine pr_mk T.f_law_group sc_law_group (fun vs H Q E h => ?_) (fun f cdv A outer s H vs Q E hr h => ?_)
  · obtain ⟨n, x, a, p, rfl, _⟩ := h
    rfl
  · obtain ⟨n, x, a, p, rfl, ha, hP, hn, hx1, hx2, q⟩ := h
    refine ⟨_, (pss_one (ps_ret (pe_callTy call_tuple_of (by rfl) T.n_tuple PyProof.Rows.boot_tuple (pa_cons (pe_lc (own := [("_law_k", 2)]) (g := gName 2) rfl sc_law_group.nd (pi_range1 (by rfl) T.n_range (pa_cons (pe_callB (call_len_seqK (K := K) rfl) (by rfl) T.n_len PySem.boot_len (pa_cons (pv 0) pa_nil)) pa_nil)) (blkOk_by (own := [("_law_k", 2)]) (N := n_law_group) (sc := defScope s_law_group) (by decide +kernel)) (fun _ _ _ _ _ => (pg_name (i := 2) sc_law_group.nd rfl (.inl rfl))) (fun _ _ _ _ _ => (pts_one (pt_cmpR op_eq (pe_ix (ix_tupK (K := K) rfl) (pv 0) (pv 2) (fun _ _ => rfl)) (pe_ix (ix_tupK (K := K) rfl) (pv 0) (pe_op op_sub (pv 1) pe_int) (fun _ _ => rfl)) (nomark _)))) (fun _ _ _ _ _ => (pe_op op_add (pv 2) pe_int))) pa_nil)))), ?_⟩
    refine ⟨_, rfl, a, _, rfl, .inr ha, ?_⟩
    rw [nvs_len, hP.len]
    refine ⟨_, rfl, by omega, by omega, ?_⟩
    rw [show ((n : Nat) : Int).toNat = n by omega]
    refine fun D hD => lc_it walk_range (fun i H' => Ex H H' ∧ H' D = some (.lst (nvs (cellN p i (itm p x))))) ⟨Ex.new hD, upd_same⟩ (fun _ _ _ _ => trivial) (fun i v H3 H4 hi hp hy => ?_) (fun H' hp => ?_)
    · obtain ⟨e3, h3⟩ := hp
      obtain ⟨rfl, rfl⟩ := hy
      have z0 : (0 : Int) + (i : Int) = (i : Int) := Int.zero_add _
      have ha4 := ex_t e3 ha
      have g1 : atI (nvs p) (0 + (i : Int)) = some (.int (itm p (i + 1) : Nat)) := by
        rw [z0]
        exact atI_nat (nvs_get (itm_get (x := i + 1) (by omega) (by rw [hP.len]; omega)))
      refine ⟨rfl, _, rfl, _, rfl, a, _, _, _, rfl, rfl, ha4, g1, _, rfl, _, rfl, x, 1, rfl, rfl, a, _, _, _, rfl, rfl, ha4, itm_at hx1 (by rw [hP.len]; exact hx2), rfl, _, rfl, ?_⟩
      rw [dec_nat]
      by_cases g : itm p (i + 1) = itm p x
      · rw [decide_eq_true g]
        refine iteT ⟨_, rfl, _, 1, rfl, rfl, _, h3, ?_, e3.mut hD, ?_⟩
        · rw [nvs_len]
          have := cell_len (p := p) (i := i) (r := itm p x)
          have : 4097 < sizeLine := by decide
          omega
        · rw [upd_same, ← g, cell_more, z0]
          unfold nvs
          rw [List.map_append]
          rfl
      · rw [decide_eq_false g]
        refine iteF ⟨e3, ?_⟩
        rw [cell_same g]
        exact h3
    · obtain ⟨e3, h3⟩ := hp
      exact ⟨D, _, rfl, .inl ⟨sq_of h3, fun r nr => q r _ (e3.trans (Ex.new nr)) (fresh_back e3 nr) upd_same⟩⟩
end
end Eyes

set_option Elab.async false
set_option linter.all false
set_option maxRecDepth 100000
set_option maxHeartbeats 4000000
namespace Eyes
open PySem PySem.Spec PyProof.Rows L2 Evl TL
def spRows : Sp := fun vs H Q _ => ∃ (b : Addr) (n : Nat) (G : Hp), vs = [.ref b, .int n] ∧ At b G H ∧ 1 ≤ n ∧ n ≤ 60 ∧ ∀ (p : List Nat) r G' H', IsP n p → Ex G G' → G' r = some (.tup (nvs p)) → At b G' H' → Q (.ref r) H'
def spCouples : Sp := fun vs H Q _ => ∃ (b : Addr) (n c : Nat) (G : Hp), vs = [.ref b, .int n, .int c] ∧ At b G H ∧ 1 ≤ n ∧ n ≤ 2400 ∧ c ≤ 60 ∧ ∀ (l : List (Nat × Nat)) r ws G' H', inN n l → l.length = c → Ex G G' → G r = none → G' r = some (.lst ws) → Prh G' ws l → At b G' H' → Q (.ref r) H'
section
variable {P : Program} {w : World} {K : PySem.W.Frag} {mg : Str → Option Value} {base : Heap} {AA : Adr}
theorem ok_law_rows (T : Txt K mg AA) : Pr P w K mg base "_law_rows" s_law_rows p_law_rows 3 spRows := by
  refine pr_mk T.f_law_rows sc_law_rows (fun vs H Q E h => ?_) (fun f cdv A outer s H vs Q E hr h => ?_)
  · obtain ⟨b, n, G, rfl, _⟩ := h
    rfl
  · obtain ⟨b, n, G, rfl, hA, h1, hn, q⟩ := h
    refine ⟨_, (pss_cons (ps_set (i := 2) sc_law_rows.nd rfl (.inl rfl) (pe_lst pa_nil))
      (pss_cons (ps_for PassesOwn.never rfl (pi_range1 (by rfl) T.n_range (pa_cons (pv 1) pa_nil)) (pg_name (i := 3) sc_law_rows.nd rfl (.inl rfl))
      (pss_cons (ps_set (i := 4) sc_law_rows.nd rfl (.inl rfl) (pe_op op_cat (pe_sortedSetI (K := K) rfl rfl (pv 2) (by rfl) T.n_sorted (by rfl) T.n_set) (pe_lst (pa_cons (pe_op op_add (pv 3) pe_int) pa_nil))))
      (pss_one (ps_expr (pe_bm PySem.F.plainAttrs_list PySem.F.slot_list_append PySem.F.type_list_append mt_append (pv 2) (pa_cons (pcall (ok_law_of T) hr (pa_cons (pv 0) (pa_cons (pe_ifExp (pt_truth (pcall (ok_law_draw T) hr (pa_cons (pv 0) (pa_cons pe_int pa_nil))) (by intro _; rfl)) (pe_op op_cat (pv 4) (pe_lst (pa_cons (pe_op op_add (pv 3) pe_int) pa_nil))) (pv 4)) pa_nil))) pa_nil))))))
      (pss_one (ps_ret (pe_callTy call_tuple_of (by rfl) T.n_tuple PyProof.Rows.boot_tuple (pa_cons (pv 2) pa_nil)))))), ?_⟩
    refine ⟨by show 0 ≤ sizeLine; decide, fun F nF => ?_⟩
    have hA1 := hA.new (o := .lst []) nF
    have nFG := hA.nh nF
    refine ⟨_, rfl, _, rfl, by omega, by omega, ?_⟩
    rw [show ((n : Nat) : Int).toNat = n by omega]
    refine for_it walk_range (fun i σ H' => ∃ (y3 y4 : Option V) (p : List Nat) (G1 : Hp), σ = [some (.ref b), some (.int n), some (.ref F), y3, y4] ∧ At b G1 H' ∧ Ex G G1 ∧ G1 F = some (.lst (nvs p)) ∧ IsP i p) ⟨none, none, [], _, rfl, hA1, Ex.new nFG, upd_same, isP_nil⟩ (fun _ _ _ _ _ => trivial) (fun i v σ H3 H4 hi hp hy => ?_) (fun σ H' hp => ?_)
    · obtain ⟨y3, y4, p, G1, rfl, hA2, e1, hF, hP⟩ := hp
      obtain ⟨rfl, rfl⟩ := hy
      have hm : nvs p = (p.map (fun x : Nat => (x : Int))).map V.int := by
        unfold nvs
        rw [List.map_map]
        rfl
      have hF2 := hF
      rw [hm] at hF2
      refine ⟨_, rfl, F, _, rfl, sq_of (hA2.ex _ _ hF2), by rw [List.length_map, hP.len]; omega, fun ys S so mm ll nS => ?_⟩
      rw [List.length_map, hP.len] at ll
      have a3 := hA2.new (o := .lst (ys.map V.int)) nS
      have x3 := Ex.new (o := .lst (ys.map V.int)) (hA2.nh nS)
      refine ⟨_, rfl, _, 1, rfl, rfl, by show 1 ≤ sizeLine; decide, fun pk npk => ?_⟩
      have a4 := a3.new (o := .lst [.int (0 + (i : Int) + 1)]) npk
      have x4 := Ex.new (o := .lst [.int (0 + (i : Int) + 1)]) (a3.nh npk)
      refine ⟨S, pk, ys.map V.int, _, rfl, rfl, a4.ex _ _ (x4 _ _ upd_same), upd_same, sz_of (by rw [List.length_map]; show ys.length + 1 ≤ 100000; omega), fun pr npr => ?_⟩
      have a5 := a4.new (o := .lst (ys.map V.int ++ [.int (0 + (i : Int) + 1)])) npr
      have x5 := Ex.new (o := .lst (ys.map V.int ++ [.int (0 + (i : Int) + 1)])) (a4.nh npr)
      have x35 := x3.trans (x4.trans x5)
      have fin : ∀ (v : V) (G2 H5 : Hp), (v ∈ ys.map V.int ++ [.int (0 + (i : Int) + 1)] ∨ v = .int (0 + (i : Int) + 1)) → Ex G1 G2 → At b G2 H5 → ∃ (xs : List V), H5 F = some (.lst xs) ∧ xs.length + 1 ≤ sizeLine ∧ ∃ (y3 y4 : Option V) (p : List Nat) (G1 : Hp), [some (V.ref b), some (V.int ↑n), some (V.ref F), some (V.int (0 + (i : Int))), some (V.ref pr)] = [some (.ref b), some (.int n), some (.ref F), y3, y4] ∧ At b G1 (upd H5 F (.lst (xs ++ [v]))) ∧ Ex G G1 ∧ G1 F = some (.lst (nvs p)) ∧ IsP (i + 1) p := fun v G2 H5 hv e2 hA5 => by
        obtain ⟨m, rfl, hm⟩ : ∃ m : Nat, v = .int (m : Int) ∧ (m = i + 1 ∨ m ∈ p) := by
          have hv : v ∈ ys.map V.int ∨ v = .int (0 + (i : Int) + 1) := by
            rcases hv with h | h
            · rcases List.mem_append.mp h with h | h
              · exact .inl h
              · exact .inr (List.mem_singleton.mp h)
            · exact .inr h
          rcases hv with h | h
          · obtain ⟨y, hy, rfl⟩ := List.mem_map.mp h
            obtain ⟨x, hx, rfl⟩ := List.mem_map.mp ((mm y).mp hy)
            exact ⟨x, rfl, .inr hx⟩
          · exact ⟨i + 1, by rw [h]; congr 1; omega, .inl rfl⟩
        have h5 : G2 F = some (.lst (nvs p)) := e2 _ _ hF
        refine ⟨nvs p, hA5.ex _ _ h5, sz_of (by rw [nvs_len, hP.len]; omega), _, _, p ++ [m], _, rfl, hA5.put' h5, (e1.trans e2).mut nFG, ?_, isP_snoc hP hm⟩
        rw [upd_same]
        unfold nvs
        rw [List.map_append]
        rfl
      refine ⟨_, rfl, .inl ⟨rfl, nvs p, sq_of (a5.ex _ _ (x35 _ _ hF))⟩, _, rfl, _, rfl, b, 2, _, rfl, a5, by omega, by omega, fun d H5 d0 d1 hA5 => ⟨d != 0, rfl, ite2 (fun hd => ?_) (fun hd => ?_)⟩⟩
      · refine ⟨_, rfl, _, rfl, _, 1, rfl, rfl, by show 1 ≤ sizeLine; decide, fun pk2 npk2 => ?_⟩
        have a6 := hA5.new (o := .lst [.int (0 + (i : Int) + 1)]) npk2
        have x6 := Ex.new (o := .lst [.int (0 + (i : Int) + 1)]) (hA5.nh npk2)
        refine ⟨pr, pk2, _, _, rfl, rfl, a6.ex _ _ (x6 _ _ upd_same), upd_same, sz_of (by rw [List.length_append, List.length_map]; show (ys.length + 1) + 1 ≤ 100000; omega), fun pr2 npr2 => ?_⟩
        have a7 := a6.new (o := .lst ((ys.map V.int ++ [.int (0 + (i : Int) + 1)]) ++ [.int (0 + (i : Int) + 1)])) npr2
        have x7 := Ex.new (o := .lst ((ys.map V.int ++ [.int (0 + (i : Int) + 1)]) ++ [.int (0 + (i : Int) + 1)])) (a6.nh npr2)
        refine ⟨b, .ref pr2, _, _, rfl, a7, .inl ⟨pr2, rfl, sq_of upd_same⟩, by simp, by rw [List.length_append, List.length_append, List.length_map]; show (ys.length + 1) + 1 < _; omega, fun v H6 hv hA6 => ?_⟩
        obtain ⟨xs, g1, g2, g3⟩ := fin v _ H6 (by
          rcases List.mem_append.mp hv with h | h
          · exact .inl h
          · exact .inr (List.mem_singleton.mp h)) (x35.trans (x6.trans x7)) hA6
        exact ⟨F, xs, v, rfl, rfl, g1, g2, g3⟩
      · refine ⟨_, rfl, b, .ref pr, _, _, rfl, hA5, .inl ⟨pr, rfl, sq_of upd_same⟩, by simp, by rw [List.length_append, List.length_map]; show ys.length + 1 < _; omega, fun v H6 hv hA6 => ?_⟩
        obtain ⟨xs, g1, g2, g3⟩ := fin v _ H6 (.inl hv) x35 hA6
        exact ⟨F, xs, v, rfl, rfl, g1, g2, g3⟩
    · obtain ⟨y3, y4, p, G1, rfl, hA2, e1, hF, hP⟩ := hp
      refine ⟨_, rfl, F, _, rfl, .inl ⟨sq_of (hA2.ex _ _ hF), fun r nr => ?_⟩⟩
      exact q p r _ _ hP (e1.trans (Ex.new (hA2.nh nr))) upd_same (hA2.new nr)
theorem ok_law_couples (T : Txt K mg AA) : Pr P w K mg base "_law_couples" s_law_couples p_law_couples 2 spCouples := by
  refine pr_mk T.f_law_couples sc_law_couples (fun vs H Q E h => ?_) (fun f cdv A outer s H vs Q E hr h => ?_)
  · obtain ⟨b, n, c, G, rfl, _⟩ := h
    rfl
  · obtain ⟨b, n, c, G, rfl, hA, h1, hn, hc, q⟩ := h
    refine ⟨_, (pss_one (ps_ret (pe_lc (own := [("_law_k", 3)]) (g := gName 3) (tt := tYes) rfl sc_law_couples.nd (pi_range1 (by rfl) T.n_range (pa_cons (pv 2) pa_nil)) (blkOk_by (own := [("_law_k", 3)]) (N := n_law_couples) (sc := defScope s_law_couples) (by decide +kernel)) (fun _ _ _ _ _ => (pg_name (i := 3) sc_law_couples.nd rfl (.inl rfl))) (fun _ _ _ _ _ => pts_nil) (fun _ _ _ _ _ => (pe_tup (pa_cons (pe_op op_add pe_int (pcall (ok_law_draw T) hr (pa_cons (pv 0) (pa_cons (pv 1) pa_nil)))) (pa_cons (pe_op op_add pe_int (pcall (ok_law_draw T) hr (pa_cons (pv 0) (pa_cons (pv 1) pa_nil)))) pa_nil))))))), ?_⟩
    refine ⟨_, rfl, _, rfl, by omega, by omega, ?_⟩
    rw [show ((c : Nat) : Int).toNat = c by omega]
    refine fun D hD => lc_it walk_range (fun i H' => ∃ (l : List (Nat × Nat)) (ws : List V) (G1 : Hp), At b G1 H' ∧ Ex G G1 ∧ G1 D = some (.lst ws) ∧ Prh G1 ws l ∧ inN n l ∧ l.length = i) ⟨[], [], _, hA.new hD, Ex.new (hA.nh hD), upd_same, ⟨rfl, fun i v hv => by cases hv⟩, fun xy hxy => (nomatch hxy), rfl⟩ (fun _ _ _ _ => trivial) (fun i v H3 H4 hi hp hy => ?_) (fun H' hp => ?_)
    · obtain ⟨l, ws, G1, hA2, e1, hF, hP, hN, hl⟩ := hp
      obtain ⟨rfl, rfl⟩ := hy
      have g1D : G D = none := hA.nh hD
      refine ⟨rfl, _, rfl, _, rfl, b, n, G1, rfl, hA2, by omega, by omega, fun d1 H5 d10 d11 hA5 => ⟨1, d1, rfl, rfl, _, rfl, _, rfl, b, n, G1, rfl, hA5, by omega, by omega, fun d2 H6 d20 d21 hA6 => ⟨1, d2, rfl, rfl, by show 2 ≤ sizeLine; decide, fun t nt => ?_⟩⟩⟩
      obtain ⟨x, rfl⟩ : ∃ x : Nat, d1 = (x : Int) := ⟨d1.toNat, by omega⟩
      obtain ⟨y, rfl⟩ : ∃ y : Nat, d2 = (y : Int) := ⟨d2.toNat, by omega⟩
      have a7 := hA6.new (o := .tup [.int (1 + (x : Int)), .int (1 + (y : Int))]) nt
      have x7 := Ex.new (o := .tup [.int (1 + (x : Int)), .int (1 + (y : Int))]) (hA6.nh nt)
      have ht : (upd G1 t (.tup [.int (1 + (x : Int)), .int (1 + (y : Int))])) t = some (.tup [.int ((1 + x : Nat) : Int), .int ((1 + y : Nat) : Int)]) := by
        rw [upd_same]
        congr 3
      have h7 := x7 _ _ hF
      have hlw : ws.length = i := by rw [hP.1, hl]
      refine ⟨ws, a7.ex _ _ h7, sz_lt (by omega), l ++ [(1 + x, 1 + y)], ws ++ [.ref t], _, a7.put' h7, (e1.trans x7).mut g1D, upd_same, ((hP.ex x7).snoc ht).put h7, fun xy hxy => ?_, by rw [List.length_append, hl]; rfl⟩
      rcases List.mem_append.mp hxy with h | h
      · exact hN xy h
      · rw [List.mem_singleton.mp h]
        show (1 ≤ 1 + x ∧ 1 + x ≤ n) ∧ 1 ≤ 1 + y ∧ 1 + y ≤ n
        omega
    · obtain ⟨l, ws, G1, hA2, e1, hF, hP, hN, hl⟩ := hp
      exact q l D ws G1 H' hN hl e1 (hA.nh hD) hF hP hA2
end
end Eyes

set_option Elab.async false
set_option linter.all false
set_option maxRecDepth 100000
set_option maxHeartbeats 4000000
namespace Eyes
open PySem PySem.Spec PyProof.Rows L2 Evl TL
section
variable {P : Program} {w : World} {K : PySem.W.Frag} {mg : Str → Option Value} {base : Heap} {AA : Adr}
end
end Eyes

set_option Elab.async false
set_option linter.all false
set_option maxRecDepth 100000
set_option maxHeartbeats 4000000
namespace Eyes
open PySem PySem.Spec PyProof.Rows L2 Evl TL
theorem it_by {J : It} {n : Nat} {G : Hp → Prop} {Y : Nat → Hp → V → Hp → Prop} (w : Walk J n G Y) {Qd : Hp → Prop} {B : V → Hp → (Hp → Prop) → Prop} {H0 : Hp} (Pv : Nat → Hp → Prop) (h0 : Pv 0 H0) (hG : ∀ i H, i ≤ n → Pv i H → G H)
    (hs : ∀ i x H H', i < n → Pv i H → Y i H x H' → B x H' (Pv (i + 1))) (hd : ∀ H, Pv n H → Qd H) :
    ∃ W : Nat → Nat → Hp → Prop, (∃ m, W 0 m H0) ∧ ∀ i m H, W i m H →
      (J.stop i H ∧ Qd H) ∨ (J.go i H ∧ ∃ Nx : Hp → Prop, (∀ H', Nx H' → ∃ m', m' < m ∧ W (i + 1) m' H') ∧ ∀ x H', J.yld i H x H' → B x H' Nx) := by
  refine ⟨fun i m H => m = n - i ∧ i ≤ n ∧ Pv i H, ⟨n, by simp, Nat.zero_le _, h0⟩, ?_⟩
  rintro i m H ⟨rfl, hi, p⟩
  have g := hG i H hi p
  by_cases hlt : i < n
  · exact .inr ⟨w.goes i H hlt g, Pv (i + 1), fun H' p' => ⟨n - (i + 1), by omega, rfl, hlt, p'⟩, fun x H' y => hs i x H H' hlt p (w.yields i H x H' hlt g y)⟩
  · have e : i = n := by omega
    subst e
    exact .inl ⟨w.stops H g, hd H p⟩
theorem sizes_app (a b : List Ci) : sizes (a ++ b) = sizes a + sizes b := by rw [← leavess_len, ← leavess_len, ← leavess_len, leavess_app, List.length_append]
def reprC (c : Ci) : Str := Str.empty ++ Str.ofString "Circle(" ++ c.str ++ Str.ofString ")"
def EqK (K : PySem.W.Frag) (C : Addr) (c : Ci) (H : Hp) (y : V) (b : Bool) : Prop :=
  (∃ d, CiAt C H y d ∧ b = decide (c.str = d.str)) ∨ (∃ z, y = .str z ∧ b = false) ∨ ∃ a zs, y = .ref a ∧ H a = some (.lst zs) ∧ b = false
def spEqC (K : PySem.W.Frag) (C : Addr) : Sp := fun vs H Q _ => ∃ (x y : V) (c : Ci) (b : Bool), vs = [x, y] ∧ CiAt C H x c ∧ EqK K C c H y b ∧ ∀ H', Ex H H' → Q (.bl b) H'
def spEyesC (C : Addr) (n : Nat) : Sp := fun vs H Q _ => ∃ (v : V) (c : Ci), vs = [v] ∧ CiAt C H v c ∧ c.depth < n ∧ c.fine ∧ ∀ (ys : List Str) (l : Addr) (H' : Hp), IsEyes c ys → H l = none → Ex H H' → H' l = some (.lst (ys.map V.str)) → Q (.ref l) H'
section
variable {P : Program} {w : World} {K : PySem.W.Frag} {mg : Str → Option Value} {base : Heap} {AA : Adr}
theorem ok_Circle___repr (T : Txt K mg AA) : PrM P w K mg base AA.Circle "__repr__" p_Circle___repr 1 (spCi AA.Circle (fun c => c.str.length ≤ 900) fun c => .str (reprC c)) := by
  refine prm_mk T.t_Circle___repr sc_Circle___repr (fun vs H Q E h => ?_) (fun f cdv A outer s H vs Q E hr h => ?_)
  · obtain ⟨v, c, rfl, _⟩ := h
    rfl
  · obtain ⟨v, c, rfl, hc, hz, q⟩ := h
    refine ⟨_, (pss_one (ps_ret (pe_joined (PJ.cons pe_str (PJ.cons (pe_fmt (pe_fldK (K := K) rfl (pv 0) rfl)) (PJ.cons pe_str PJ.nil)))))), ?_⟩
    obtain ⟨p, dx, l, us, rfl, hp, hl, hcs⟩ := hc.at_
    refine ⟨_, rfl, by decide +kernel, _, rfl, p, AA.Circle, dx, _, _, rfl, hp, T.c_Circle, T.a_Circle_text, fl_text, .inl ⟨c.str, rfl, ?_⟩⟩
    have hL : (Str.empty ++ Str.ofString "Circle(").length = 7 := by decide +kernel
    have hR : (Str.ofString ")").length = 1 := by decide +kernel
    have l1 : (Str.empty ++ Str.ofString "Circle(" ++ c.str).length = 7 + c.str.length := by
      rw [len_tl, tl_append, List.length_append, ← len_tl, ← len_tl, hL]
    refine ⟨sz_of (by omega), _, rfl, ?_, _, rfl, ?_, q _ (Ex.refl _)⟩
    · exact sz_of (by omega)
    · rw [len_tl, tl_append, List.length_append, ← len_tl, ← len_tl, l1, hR]
      exact sz_of (by omega)
theorem ok_Circle___eq (T : Txt K mg AA) : PrM P w K mg base AA.Circle "__eq__" p_Circle___eq 1 (spEqC K AA.Circle) := by
  refine prm_mk T.t_Circle___eq sc_Circle___eq (fun vs H Q E h => ?_) (fun f cdv A outer s H vs Q E hr h => ?_)
  · obtain ⟨x, y, c, b, rfl, _⟩ := h
    rfl
  · obtain ⟨x, y, c, b, rfl, hc, hy, q⟩ := h
    refine ⟨_, (pss_one (ps_ret (pe_and (pe_callB (call_isiK (K := K) rfl) (by rfl) T.n_isinstance PyProof.Rows.boot_isinstance (pa_cons (pv 1) (pa_cons (pe_glob (v := .ref AA.Circle) (by rfl) T.m_Circle rfl) pa_nil))) (pe_one (pe_cmpR op_eq (pe_fldK (K := K) rfl (pv 0) rfl) (pe_fldK (K := K) rfl (pv 1) rfl) (nomark _)))))), ?_⟩
    obtain ⟨p, dx, l, us, rfl, hp, hl, hcs⟩ := hc.at_
    rcases hy with ⟨d, hd, rfl⟩ | ⟨z, rfl, rfl⟩ | ⟨a, zs, rfl, ha, rfl⟩
    · obtain ⟨p2, dx2, l2, us2, rfl, hp2, hl2, hcs2⟩ := hd.at_
      refine ⟨_, rfl, _, _, _, _, _, rfl, .own _, .base (.ins hp2 T.c_Circle T.y_Circle.ty1 T.y_Circle.ty2 T.y_Circle.ty3 T.y_Circle.ty4), kit_self, ?_⟩
      refine ⟨_, rfl, iteT ?_⟩
      refine ⟨_, rfl, p, AA.Circle, dx, _, _, rfl, hp, T.c_Circle, T.a_Circle_text, fl_text, _, rfl, p2, AA.Circle, dx2, _, _, rfl, hp2, T.c_Circle, T.a_Circle_text, fl_text, rfl, ?_⟩
      have e : decide (V.str c.str = V.str d.str) = decide (c.str = d.str) := by
        by_cases h : c.str = d.str
        · rw [h, decide_eq_true rfl, decide_eq_true rfl]
        · rw [decide_eq_false h, decide_eq_false fun g => h (V.str.inj g)]
      rw [e]
      exact q _ (Ex.refl _)
    · refine ⟨_, rfl, _, _, _, _, _, rfl, .own _, .base (.str z), T.kc_str, ?_⟩
      exact ⟨_, rfl, iteF (q _ (Ex.refl _))⟩
    · refine ⟨_, rfl, _, _, _, _, _, rfl, .own _, .base (.lst ha), T.kc_list, ?_⟩
      exact ⟨_, rfl, iteF (q _ (Ex.refl _))⟩
theorem ok_Circle_eyes (T : Txt K mg AA) : ∀ n : Nat, PrM P w K mg base AA.Circle "eyes" p_Circle_eyes n (spEyesC AA.Circle n)
  | 0 => by
    obtain ⟨f, fd, M, F, hb⟩ := T.t_Circle_eyes
    exact ⟨f, fd, M, hb, fun vs H Q E h => by
      obtain ⟨x, d, _, _, h, _⟩ := h
      omega, fun A outer s H args us vs Q E _ _ _ _ h => by
      obtain ⟨x, d, _, _, h, _⟩ := h
      omega⟩
  | n + 1 => by
    have G := ok_Circle_eyes T n
    refine prm_mk T.t_Circle_eyes sc_Circle_eyes (fun vs H Q E h => ?_) (fun f cdv A outer s H vs Q E hr h => ?_)
    · obtain ⟨v, c, rfl, _⟩ := h
      rfl
    · obtain ⟨v, c, rfl, hc, hd, hf, q⟩ := h
      refine ⟨_, (pss_cons (ps_if (pt_cmpR op_eq (pe_fldK (K := K) rfl (pv 0) rfl) pe_str (nomark _))
      (pss_one (ps_ret (pe_lst (pa_cons (pe_fldK (K := K) rfl (pv 0) rfl) pa_nil))))
      pss_nil)
      (pss_one (ps_ret (pe_sortedSet (K := K) rfl rfl (pe_lc2 (own := [("part", 1), ("name", 2)]) (vs1 := [2]) (g := gName 1) (tt := tYes) (g1 := gName 2) (tt1 := tYes) rfl sc_Circle_eyes.nd (pi_list (pe_fldK (K := K) rfl (pv 0) rfl)) (blkOk_by (own := [("part", 1), ("name", 2)]) (N := n_Circle_eyes) (sc := defScope s_Circle_eyes) (by decide +kernel)) (by decide) (fun _ _ _ _ _ => (pg_name (i := 1) sc_Circle_eyes.nd rfl (.inl rfl))) (fun _ _ _ _ _ => pts_nil) (fun _ _ _ _ _ => (pi_listK (K := K) rfl (pmeth0 T.c_Circle G hr (pv 1)))) (fun _ _ _ _ _ => (pg_name (i := 2) sc_Circle_eyes.nd rfl (.inl rfl))) (fun _ _ _ _ _ => pts_nil) (fun _ _ _ _ _ => (pv 2))) (by rfl) T.n_sorted (by rfl) T.n_set)))), ?_⟩
      obtain ⟨p, dx, l, us, rfl, hp, hl, hcs⟩ := hc.at_
      refine ⟨_, rfl, p, AA.Circle, dx, _, _, rfl, hp, T.c_Circle, T.a_Circle_kind, fl_kind, rfl, _, rfl, ?_⟩
      cases c with
      | eye z =>
        refine iteT ?_
        refine ⟨_, rfl, p, AA.Circle, dx, _, _, rfl, hp, T.c_Circle, T.a_Circle_name, fl_name, by show 1 ≤ sizeLine; decide, fun b hb => ?_⟩
        exact q [z] b _ ⟨rfl, List.nodup_cons.mpr ⟨by simp, List.nodup_nil⟩, fun y => Iff.rfl⟩ hb (Ex.new hb) upd_same
      | node k ps =>
        have e2 : (decide ((V.str (Ci.node k ps).kind) = V.str (Str.ofString "eye"))) = false := decide_eq_false fun h => kindS_eye k (V.str.inj h)
        rw [e2]
        refine iteF ?_
        have hpf : ∀ c ∈ ps, c.fine := fun c hc => parts_fine hf (show c ∈ (Ci.node k ps).parts from hc)
        have hs60 : sizes ps ≤ 60 := hf.2
        have hcl : us.length = ps.length := hcs.length
        have hdn : 1 + depths ps < n + 1 := hd
        refine ⟨_, rfl, p, AA.Circle, dx, _, _, rfl, hp, T.c_Circle, T.a_Circle_parts, fl_parts, l, rfl, ⟨us, sq_of hl⟩, fun D hD => it_by (walk_list (xs := us)) (fun i H' => H D = none ∧ Ex H H' ∧ ∃ xs : List Str, H' D = some (.lst (xs.map V.str)) ∧ (∀ y, y ∈ xs ↔ y ∈ leavess (ps.take i)) ∧ xs.length ≤ sizes (ps.take i)) ⟨hD, Ex.new hD, [], upd_same, fun y => Iff.rfl, Nat.le_refl _⟩ (fun _ _ _ hp => sq_of (hp.2.1 _ _ hl)) (fun i v H3 H4 hi hp3 hy => ?_) (fun H' hp3 => ?_)⟩
        · obtain ⟨rfl, hv⟩ := hy
          obtain ⟨c, hg, hA⟩ := hcs.get hv
          obtain ⟨hD0, e3, xs, h3, hm, hx⟩ := hp3
          have hcm : c ∈ ps := List.mem_of_getElem? hg
          have hcd := depths_le hcm
          obtain ⟨p2, dx2, lp2, vs2, rfl, hp2, hlp2, hcs2⟩ := hA.at_
          have htk : ps.take (i + 1) = ps.take i ++ [c] := by
            rw [List.take_add_one, show ps[i]? = some c from hg]
            rfl
          have hsz : sizes (ps.take (i + 1)) = sizes (ps.take i) + c.size := by
            rw [htk, sizes_app]
            rfl
          refine ⟨rfl, _, rfl, p2, dx2, _, rfl, e3 _ _ hp2, fl_no (by decide +kernel) (by decide +kernel) (by decide +kernel) (by decide +kernel) (by decide +kernel) (by decide +kernel), .ref p2, c, rfl, hA.mono e3, by omega, hpf c hcm, fun ys l2 H5 hys hl2 e5 h5 => ?_⟩
          have hyl := hys.len
          have hne : D ≠ l2 := ne_of_none h3 hl2
          refine ⟨l2, rfl, ⟨_, sq_of h5⟩, it_by (walk_list (xs := ys.map V.str)) (fun j H' => Ex H H' ∧ H' l2 = some (.lst (ys.map V.str)) ∧ H' D = some (.lst ((xs ++ ys.take j).map V.str))) ⟨e3.trans e5, h5, ?_⟩ (fun _ _ _ hq => sq_of hq.2.1) (fun j u H6 H7 hj hq hy6 => ?_) (fun H' hq => ?_)⟩
          · rw [List.take_zero, List.append_nil]
            exact e5 _ _ h3
          · obtain ⟨rfl, hu⟩ := hy6
            obtain ⟨e6, h6, h7⟩ := hq
            rw [List.getElem?_map] at hu
            obtain ⟨y, hyj, rfl⟩ := Option.map_eq_some_iff.mp hu
            refine ⟨rfl, _, rfl, _, h7, ?_, e6.mut hD0, (upd_ne hne.symm).trans h6, ?_⟩
            · rw [List.length_map, List.length_append, List.length_take]
              refine sz_lt ?_
              have h8 : sizes (ps.take i) + c.size ≤ 60 := by
                have h9 : sizes ps = sizes (ps.take (i + 1)) + sizes (ps.drop (i + 1)) := by
                  rw [← sizes_app, List.take_append_drop]
                omega
              omega
            · rw [upd_same, List.take_add_one, hyj, ← List.append_assoc, List.map_append (l₁ := xs ++ ys.take j)]
              rfl
          · obtain ⟨e6, h6, h7⟩ := hq
            rw [List.take_of_length_le (by rw [List.length_map]; exact Nat.le_refl _)] at h7
            refine ⟨hD0, e6, xs ++ ys, h7, fun y => ?_, ?_⟩
            · rw [List.mem_append, htk, leavess_app, List.mem_append, hm y, hys.2.2 y]
              show _ ↔ _ ∨ y ∈ c.leaves ++ []
              rw [List.append_nil]
            · rw [List.length_append, hsz]
              omega
        · obtain ⟨hD0, e3, xs, h3, hm, hx⟩ := hp3
          rw [List.take_of_length_le (by rw [hcl]; exact Nat.le_refl _)] at hm hx
          refine ⟨D, xs, rfl, sq_of h3, by omega, fun ys p3 so nd me np => ?_⟩
          exact q ys p3 _ ⟨so, nd, fun y => (me y).trans (hm y)⟩ (fresh_back e3 np) (e3.trans (Ex.new np)) upd_same
end
end Eyes

set_option Elab.async false
set_option linter.all false
set_option maxRecDepth 100000
set_option maxHeartbeats 4000000
namespace Eyes
open PySem PySem.Spec PyProof.Rows L2 Evl TL
def Plain (x : V) : Prop := x = .non ∨ (∃ b, x = .bl b) ∨ (∃ i, x = .int i) ∨ ∃ z, x = .str z
inductive Sm (C : Addr) (H : Hp) : Nat → V → V → Prop
  | sc {n : Nat} {x : V} : Plain x → Sm C H (n + 1) x x
  | ci {n : Nat} {x y : V} {c d : Ci} : CiAt C H x c → CiAt C H y d → c.str = d.str → Sm C H (n + 1) x y
  | lst {n : Nat} {a b : Addr} {xs ys : List V} : H a = some (.lst xs) → H b = some (.lst ys) → xs.length = ys.length → xs.length ≤ 90000 → (∀ (i : Nat) (u v : V), xs[i]? = some u → ys[i]? = some v → Sm C H n u v) → Sm C H (n + 1) (.ref a) (.ref b)
  | tup {n : Nat} {a b : Addr} {xs ys : List V} : H a = some (.tup xs) → H b = some (.tup ys) → xs.length = ys.length → xs.length ≤ 90000 → (∀ (i : Nat) (u v : V), xs[i]? = some u → ys[i]? = some v → Sm C H n u v) → Sm C H (n + 1) (.ref a) (.ref b)
theorem Sm.mono {C : Addr} {H H' : Hp} (e : Ex H H') {n : Nat} {x y : V} (h : Sm C H n x y) : Sm C H' n x y := by
  induction h with
  | sc h => exact .sc h
  | ci h1 h2 h3 => exact .ci (h1.mono e) (h2.mono e) h3
  | lst h1 h2 h3 h4 _ ih => exact .lst (e _ _ h1) (e _ _ h2) h3 h4 ih
  | tup h1 h2 h3 h4 _ ih => exact .tup (e _ _ h1) (e _ _ h2) h3 h4 ih
theorem Rep.sm {C : Addr} {H : Hp} : ∀ (n : Nat) {x y : V} {d : PyData}, Rep H x d → Rep H y d → d.depth < n → wid d ≤ 90000 → Sm C H n x y
  | 0, _, _, _, _, _, h, _ => absurd h (Nat.not_lt_zero _)
  | n + 1, x, y, d, hx, hy, hd, hw => by
    cases hx with
    | non => cases hy; exact .sc (.inl rfl)
    | bl b => cases hy; exact .sc (.inr (.inl ⟨_, rfl⟩))
    | int i => cases hy; exact .sc (.inr (.inr (.inl ⟨_, rfl⟩)))
    | str z => cases hy; exact .sc (.inr (.inr (.inr ⟨_, rfl⟩)))
    | lst h r =>
      cases hy with
      | lst h' r' =>
        simp only [PyData.depth] at hd
        simp only [wid] at hw
        have l1 := r.length
        refine .lst h h' (l1.trans r'.length.symm) (by omega) fun i u v e1 e2 => ?_
        obtain ⟨d1, hd1, r1⟩ := r.get e1
        obtain ⟨d2, hd2, r2⟩ := r'.get e2
        rw [hd1] at hd2
        cases hd2
        have := depth_get hd1
        have := wid_get hd1
        exact Rep.sm n r1 r2 (by omega) (by omega)
    | tup h r =>
      cases hy with
      | tup h' r' =>
        simp only [PyData.depth] at hd
        simp only [wid] at hw
        have l1 := r.length
        refine .tup h h' (l1.trans r'.length.symm) (by omega) fun i u v e1 e2 => ?_
        obtain ⟨d1, hd1, r1⟩ := r.get e1
        obtain ⟨d2, hd2, r2⟩ := r'.get e2
        rw [hd1] at hd2
        cases hd2
        have := depth_get hd1
        have := wid_get hd1
        exact Rep.sm n r1 r2 (by omega) (by omega)
structure Hd (K : PySem.W.Frag) (C : Addr) (H : Hp) (n : Nat) (x y : V) (t : Value) (kl kt kb ki ks sq : Bool) : Prop where
  tx : TyX K H x t
  ty : TyX K H y t
  l : PySem.W.kitOne K t (.type "list") = some kl
  tp : PySem.W.kitOne K t (.type "tuple") = some kt
  b : PySem.W.kitOne K t (.type "bool") = some kb
  i : PySem.W.kitOne K t (.type "int") = some ki
  s : PySem.W.kitOne K t (.type "str") = some ks
  q : PySem.W.kitAny K t [.type "list", .type "tuple"] = some sq
  yes : sq = true → ∃ (p1 p2 : Addr) (xs ys : List V), x = .ref p1 ∧ y = .ref p2 ∧ xs.length = ys.length ∧ xs.length ≤ 90000 ∧ (∀ (i : Nat) (u v : V), xs[i]? = some u → ys[i]? = some v → Sm C H n u v) ∧ ((H p1 = some (.lst xs) ∧ H p2 = some (.lst ys)) ∨ (H p1 = some (.tup xs) ∧ H p2 = some (.tup ys)))
  no : sq = false → PySem.W.kitOne K t (.type "dict") = some false ∧ ((x = y ∧ scal x y = true) ∨ ∃ c d, CiAt C H x c ∧ CiAt C H y d ∧ c.str = d.str)
theorem Sm.hd {K : PySem.W.Frag} {C : Addr} {H : Hp} {n : Nat} {x y : V} (cc : Cls K C) (cy : ClsY K C) (h : Sm C H (n + 1) x y) : ∃ t kl kt kb ki ks sq, Hd K C H n x y t kl kt kb ki ks sq := by
  have dat : ∀ (d : PyData), Rep H x d → Rep H y d → (seqD d = true → ∃ (p1 p2 : Addr) (xs ys : List V), x = .ref p1 ∧ y = .ref p2 ∧ xs.length = ys.length ∧ xs.length ≤ 90000 ∧ (∀ (i : Nat) (u v : V), xs[i]? = some u → ys[i]? = some v → Sm C H n u v) ∧ ((H p1 = some (.lst xs) ∧ H p2 = some (.lst ys)) ∨ (H p1 = some (.tup xs) ∧ H p2 = some (.tup ys)))) → (seqD d = false → PySem.W.kitOne K (.type (tyD d)) (.type "dict") = some false ∧ x = y ∧ scal x y = true) → ∃ t kl kt kb ki ks sq, Hd K C H n x y t kl kt kb ki ks sq := fun d hx hy g1 g2 => by
    obtain ⟨kl, hkl⟩ := kit_list K d
    obtain ⟨kt, hkt⟩ := kit_tuple K d
    obtain ⟨kb, hkb⟩ := kit_bool K d
    obtain ⟨ki, hki⟩ := kit_int K d
    obtain ⟨ks, hks⟩ := kit_str K d
    exact ⟨_, kl, kt, kb, ki, ks, seqD d, hx.ty, hy.ty, hkl, hkt, hkb, hki, hks, kit_seq K d, g1, fun z => ⟨(g2 z).1, .inl (g2 z).2⟩⟩
  cases h with
  | sc h =>
    rcases h with rfl | ⟨b, rfl⟩ | ⟨i, rfl⟩ | ⟨z, rfl⟩
    · exact dat .none .non .non (fun z => nomatch z) fun _ => ⟨kit_ty (a := "NoneType") (by decide +kernel), rfl, rfl⟩
    · exact dat (.bool b) (.bl b) (.bl b) (fun z => nomatch z) fun _ => ⟨kit_ty (a := "bool") (by decide +kernel), rfl, rfl⟩
    · exact dat (.int i) (.int i) (.int i) (fun z => nomatch z) fun _ => ⟨kit_ty (a := "int") (by decide +kernel), rfl, rfl⟩
    · exact dat (.str z) (.str z) (.str z) (fun z => nomatch z) fun _ => ⟨kit_ty (a := "str") (by decide +kernel), rfl, rfl⟩
  | ci h1 h2 h3 =>
    obtain ⟨p, dx, l, vs, rfl, hp, _, _⟩ := h1.at_
    obtain ⟨p2, dx2, l2, vs2, rfl, hp2, _, _⟩ := h2.at_
    refine ⟨_, false, false, false, false, false, false, .base (.ins hp cc cy.ty1 cy.ty2 cy.ty3 cy.ty4), .base (.ins hp2 cc cy.ty1 cy.ty2 cy.ty3 cy.ty4), cy.k_list, cy.k_tuple, cy.k_bool, cy.k_int, cy.k_str, ?_, fun z => (nomatch z), fun _ => ⟨cy.k_dict, .inr ⟨_, _, h1, h2, h3⟩⟩⟩
    exact kitAny_cons (b := false) cy.k_list (fun _ => kitAny_cons (b := false) cy.k_tuple (fun _ => kitAny_nil) (fun z => nomatch z)) (fun z => nomatch z)
  | @lst _ a b xs ys h1 h2 h3 h4 h5 =>
    obtain ⟨kl, hkl⟩ := kit_list K (.list [])
    obtain ⟨kt, hkt⟩ := kit_tuple K (.list [])
    obtain ⟨kb, hkb⟩ := kit_bool K (.list [])
    obtain ⟨ki, hki⟩ := kit_int K (.list [])
    obtain ⟨ks, hks⟩ := kit_str K (.list [])
    exact ⟨_, kl, kt, kb, ki, ks, true, .base (.lst h1), .base (.lst h2), hkl, hkt, hkb, hki, hks, kit_seq K (.list []), fun _ => ⟨a, b, xs, ys, rfl, rfl, h3, h4, h5, .inl ⟨h1, h2⟩⟩, fun z => (nomatch z)⟩
  | @tup _ a b xs ys h1 h2 h3 h4 h5 =>
    obtain ⟨kl, hkl⟩ := kit_list K (.tuple [])
    obtain ⟨kt, hkt⟩ := kit_tuple K (.tuple [])
    obtain ⟨kb, hkb⟩ := kit_bool K (.tuple [])
    obtain ⟨ki, hki⟩ := kit_int K (.tuple [])
    obtain ⟨ks, hks⟩ := kit_str K (.tuple [])
    exact ⟨_, kl, kt, kb, ki, ks, true, .base (.tup h1), .base (.tup h2), hkl, hkt, hkb, hki, hks, kit_seq K (.tuple []), fun _ => ⟨a, b, xs, ys, rfl, rfl, h3, h4, h5, .inr ⟨h1, h2⟩⟩, fun z => (nomatch z)⟩
theorem Sm.non {C : Addr} {H : Hp} {n : Nat} {x y : V} (h : Sm C H n x y) : (x = .non ∧ y = .non) ∨ (decide (x = V.non) = false ∧ decide (y = V.non) = false) := by
  cases h with
  | sc h =>
    rcases h with rfl | ⟨b, rfl⟩ | ⟨i, rfl⟩ | ⟨z, rfl⟩
    · exact .inl ⟨rfl, rfl⟩
    · exact .inr ⟨rfl, rfl⟩
    · exact .inr ⟨rfl, rfl⟩
    · exact .inr ⟨decide_eq_false nofun, decide_eq_false nofun⟩
  | ci h1 h2 h3 =>
    obtain ⟨p, dx, l, vs, rfl, hp, _, _⟩ := h1.at_
    obtain ⟨p2, dx2, l2, vs2, rfl, hp2, _, _⟩ := h2.at_
    exact .inr ⟨rfl, rfl⟩
  | lst => exact .inr ⟨rfl, rfl⟩
  | tup => exact .inr ⟨rfl, rfl⟩
def spSm (C : Addr) (n : Nat) : Sp := fun vs H Q _ => ∃ (x y : V), vs = [x, y] ∧ Sm C H n x y ∧ ∀ H', Ex H H' → Q (.bl true) H'
section
variable {P : Program} {w : World} {K : PySem.W.Frag} {mg : Str → Option Value} {base : Heap} {AA : Adr}
theorem ok_law_sm (T : Txt K mg AA) : ∀ n : Nat, Pr P w K mg base "_law_same" s_law_same p_law_same (n + 1) (spSm AA.Circle n)
  | 0 => by
    obtain ⟨f, fd, F, hb, hm⟩ := T.f_law_same
    exact ⟨f, fd, hm, F, hb, fun vs H Q E h => by
      obtain ⟨x, y, rfl, h, _⟩ := h
      rfl, fun A outer s H args us vs Q E _ _ _ _ h => by
      obtain ⟨x, y, _, h, _⟩ := h
      cases h⟩
  | n + 1 => by
    have G := ok_law_sm T n
    refine pr_mk T.f_law_same sc_law_same (fun vs H Q E h => ?_) (fun f cdv A outer s H vs Q E hr h => ?_)
    · obtain ⟨x, y, rfl, _⟩ := h
      rfl
    · obtain ⟨x, y, rfl, hs, q⟩ := h
      refine ⟨_, (pss_cons (ps_if (PW.pt (pw_or (pt_cmpR op_isN (pv 1) pe_non (nomark _)) (pw_or1 (pt_cmpR op_isN (pv 0) pe_non (nomark _)))))
      (pss_one (ps_ret (pe_and (pe_cmpR op_isN (pv 1) pe_non (nomark _)) (pe_one (pe_cmpR op_isN (pv 0) pe_non (nomark _))))))
      pss_nil)
      (pss_cons (ps_if (pt_val (pe_callB call_isiT (by rfl) T.n_isinstance PyProof.Rows.boot_isinstance (pa_cons (pv 1) (pa_cons (pe_tup (pa_cons (pe_bltn (v := .ty "list") (by rfl) T.n_list (by decide +kernel) rfl) (pa_cons (pe_bltn (v := .ty "tuple") (by rfl) T.n_tuple (by decide +kernel) rfl) pa_nil))) pa_nil))))
      (pss_cons (ps_if (PW.pt (pw_or (pt_cmpR op_ne (pe_callB (call_isiK (K := K) rfl) (by rfl) T.n_isinstance PyProof.Rows.boot_isinstance (pa_cons (pv 0) (pa_cons (pe_bltn (v := .ty "list") (by rfl) T.n_list (by decide +kernel) rfl) pa_nil))) (pe_callB (call_isiK (K := K) rfl) (by rfl) T.n_isinstance PyProof.Rows.boot_isinstance (pa_cons (pv 1) (pa_cons (pe_bltn (v := .ty "list") (by rfl) T.n_list (by decide +kernel) rfl) pa_nil))) (nomark _)) (pw_or1 (pt_cmpR op_ne (pe_callB (call_isiK (K := K) rfl) (by rfl) T.n_isinstance PyProof.Rows.boot_isinstance (pa_cons (pv 0) (pa_cons (pe_bltn (v := .ty "tuple") (by rfl) T.n_tuple (by decide +kernel) rfl) pa_nil))) (pe_callB (call_isiK (K := K) rfl) (by rfl) T.n_isinstance PyProof.Rows.boot_isinstance (pa_cons (pv 1) (pa_cons (pe_bltn (v := .ty "tuple") (by rfl) T.n_tuple (by decide +kernel) rfl) pa_nil))) (nomark _)))))
      (pss_one (ps_ret pe_bl))
      pss_nil)
      (pss_one (ps_ret (pe_and (pe_cmpR op_eq (pe_callB call_len (by rfl) T.n_len PySem.boot_len (pa_cons (pv 0) pa_nil)) (pe_callB call_len (by rfl) T.n_len PySem.boot_len (pa_cons (pv 1) pa_nil)) (nomark _)) (pe_one (pe_callB (cr_all rfl) (by rfl) T.n_all PyProof.Rows.boot_all (pa_cons (pe_lc (own := [("_law_x", 3), ("_law_y", 4)]) (g := gTup K 2 (gCons (gName 3) (gCons (gName 4) gNil))) (tt := tYes) rfl sc_law_same.nd (RZ.pi_zipA (by rfl) T.n_zip (pa_cons (pv 0) (pa_cons (pv 1) pa_nil))) (blkOk_by (own := [("_law_x", 3), ("_law_y", 4)]) (N := n_law_same) (sc := defScope s_law_same) (by decide +kernel)) (fun _ _ _ _ _ => (pg_tup (by rfl) (pgs_cons (pg_name (i := 3) sc_law_same.nd rfl (.inl rfl)) (pgs_cons (pg_name (i := 4) sc_law_same.nd rfl (.inl rfl)) pgs_nil)))) (fun _ _ _ _ _ => pts_nil) (fun _ _ _ _ _ => (pcall G hr (pa_cons (pv 3) (pa_cons (pv 4) pa_nil))))) pa_nil)))))))
      pss_nil)
      (pss_cons (ps_if (pt_val (pe_callB (call_isiK (K := K) rfl) (by rfl) T.n_isinstance PyProof.Rows.boot_isinstance (pa_cons (pv 1) (pa_cons (pe_bltn (v := .ty "dict") (by rfl) T.n_dict (by decide +kernel) rfl) pa_nil))))
      pss_never
      pss_nil)
      (pss_cons (ps_if (PW.pt (pw_or (pt_cmpR op_ne (pe_callB (call_isiK (K := K) rfl) (by rfl) T.n_isinstance PyProof.Rows.boot_isinstance (pa_cons (pv 1) (pa_cons (pe_bltn (v := .ty "bool") (by rfl) T.n_bool (by decide +kernel) rfl) pa_nil))) (pe_callB (call_isiK (K := K) rfl) (by rfl) T.n_isinstance PyProof.Rows.boot_isinstance (pa_cons (pv 0) (pa_cons (pe_bltn (v := .ty "bool") (by rfl) T.n_bool (by decide +kernel) rfl) pa_nil))) (nomark _)) (pw_or1 (pt_cmpR op_ne (pe_callB (call_isiK (K := K) rfl) (by rfl) T.n_isinstance PyProof.Rows.boot_isinstance (pa_cons (pv 1) (pa_cons (pe_bltn (v := .ty "int") (by rfl) T.n_int (by decide +kernel) rfl) pa_nil))) (pe_callB (call_isiK (K := K) rfl) (by rfl) T.n_isinstance PyProof.Rows.boot_isinstance (pa_cons (pv 0) (pa_cons (pe_bltn (v := .ty "int") (by rfl) T.n_int (by decide +kernel) rfl) pa_nil))) (nomark _)))))
      (pss_one (ps_ret pe_bl))
      pss_nil)
      (pss_one (ps_ret (pe_and (pe_cmpR op_eq (pe_callB (call_isiK (K := K) rfl) (by rfl) T.n_isinstance PyProof.Rows.boot_isinstance (pa_cons (pv 1) (pa_cons (pe_bltn (v := .ty "str") (by rfl) T.n_str (by decide +kernel) rfl) pa_nil))) (pe_callB (call_isiK (K := K) rfl) (by rfl) T.n_isinstance PyProof.Rows.boot_isinstance (pa_cons (pv 0) (pa_cons (pe_bltn (v := .ty "str") (by rfl) T.n_str (by decide +kernel) rfl) pa_nil))) (nomark _)) (pe_one (pe_cmpR (opR_or op_eq (op_eqOwn (ok_Circle___eq T) hr)) (pv 0) (pv 1) (by rfl)))))))))), ?_⟩
      -- if due is None or found is None
      refine ⟨_, rfl, rfl, _, rfl, ?_⟩
      rcases hs.non with ⟨rfl, rfl⟩ | ⟨hxn, hyn⟩
      · refine iteT ?_
        refine iteT ?_
        refine ⟨_, rfl, rfl, _, rfl, iteT ?_⟩
        refine ⟨_, rfl, rfl, ?_⟩
        exact q _ (Ex.refl _)
      · rw [hyn]
        refine iteF ?_
        refine ⟨_, rfl, rfl, _, rfl, ?_⟩
        rw [hxn]
        refine iteF ?_
        -- if isinstance(due, (list, tuple))
        refine ⟨_, rfl, by show 2 ≤ sizeLine; decide, fun t1 ht1 => ?_⟩
        have e1 : Ex H (upd H t1 (.tup [.ty "list", .ty "tuple"])) := Ex.new ht1
        obtain ⟨t, kl, kt, kb, ki, ks, sq, g⟩ := (hs.mono e1).hd T.c_Circle T.y_Circle
        refine ⟨y, t1, [.ty "list", .ty "tuple"], _, [.type "list", .type "tuple"], _, rfl, upd_same, .cons (.ty _) (.cons (.ty _) .nil), g.ty, g.q, _, rfl, ?_⟩
        generalize upd H t1 (.tup [.ty "list", .ty "tuple"]) = H1 at e1 g
        cases sq with
        | false =>
          refine iteF ?_
          obtain ⟨hkd, ho⟩ := g.no rfl
          refine ⟨_, rfl, y, .ty "dict", _, _, _, rfl, .ty _, g.ty, hkd, _, rfl, iteF ?_⟩
          refine ⟨_, rfl, y, .ty "bool", _, _, _, rfl, .ty _, g.ty, g.b, _, rfl, x, .ty "bool", _, _, _, rfl, .ty _, g.tx, g.b, rfl, _, rfl, ?_⟩
          refine iteNS rfl ?_
          refine ⟨_, rfl, y, .ty "int", _, _, _, rfl, .ty _, g.ty, g.i, _, rfl, x, .ty "int", _, _, _, rfl, .ty _, g.tx, g.i, rfl, _, rfl, ?_⟩
          refine iteNS rfl ?_
          refine ⟨_, rfl, y, .ty "str", _, _, _, rfl, .ty _, g.ty, g.s, _, rfl, x, .ty "str", _, _, _, rfl, .ty _, g.tx, g.s, rfl, _, rfl, iteDT rfl ?_⟩
          rcases ho with ⟨rfl, hsc⟩ | ⟨c, d, h1, h2, h3⟩
          · refine ⟨_, rfl, _, rfl, .inl ⟨hsc, ?_⟩⟩
            rw [decide_eq_true rfl]
            exact q _ e1
          · obtain ⟨p, dx, l, vs, rfl, hp, _, _⟩ := h1.at_
            obtain ⟨p2, dx2, l2, vs2, rfl, hp2, _, _⟩ := h2.at_
            refine ⟨_, rfl, _, rfl, .inr ⟨p, dx, _, rfl, hp, .inr (.inr ⟨p2, dx2, _, rfl, hp2⟩), _, _, c, true, rfl, h1, .inl ⟨d, h2, by rw [decide_eq_true h3]⟩, fun H' e => q _ (e1.trans e)⟩⟩
        | true =>
          refine iteT ?_
          -- kinds
          refine ⟨_, rfl, x, .ty "list", _, _, _, rfl, .ty _, g.tx, g.l, _, rfl, y, .ty "list", _, _, _, rfl, .ty _, g.ty, g.l, rfl, _, rfl, ?_⟩
          refine iteNS rfl ?_
          refine ⟨_, rfl, x, .ty "tuple", _, _, _, rfl, .ty _, g.tx, g.tp, _, rfl, y, .ty "tuple", _, _, _, rfl, .ty _, g.ty, g.tp, rfl, _, rfl, ?_⟩
          refine iteNS rfl ?_
          -- len(found) == len(due) and all([..])
          obtain ⟨p1, p2, xs, ys, rfl, rfl, ll, hl1, hh, ho⟩ := g.yes rfl
          have LX : LenV K (.ref p1) H1 xs.length := by
            rcases ho with ⟨h, _⟩ | ⟨h, _⟩
            · exact .inl ⟨_, sq_of h, rfl⟩
            · exact .inr ⟨_, st_of h, rfl⟩
          have LY : LenV K (.ref p2) H1 ys.length := by
            rcases ho with ⟨_, h⟩ | ⟨_, h⟩
            · exact .inl ⟨_, sq_of h, rfl⟩
            · exact .inr ⟨_, st_of h, rfl⟩
          refine ⟨_, rfl, .ref p1, _, rfl, LX, _, rfl, .ref p2, _, rfl, LY, rfl, _, rfl, iteDT (by rw [ll]) ?_⟩
          -- all([same(x, y) for x, y in zip(found, due)])
          have turn : ∀ (D : Addr) (i : Nat) (v : V) (H3 H4 : Hp), i < xs.length → (H1 D = none ∧ Ex H1 H3 ∧ H3 D = some (.lst (List.replicate i (V.bl true)))) → YPair (fun i => xs[i]?) (fun i => ys[i]?) i H3 v H4 →
              gTup K 2 (gCons (gName 3) (gCons (gName 4) gNil)) v [some (V.ref p1), some (V.ref p2), none, none, none] H4 fun σ2 H5 => wipe σ2 [3, 4] = [some (V.ref p1), some (V.ref p2), none, none, none] ∧ tYes σ2 H5 fun b H6 =>
                if b = true then tCall (spSm AA.Circle n) [] (fun _ _ _ => False) (tCons (tVar 3) (tCons (tVar 4) tNil)) σ2 H6 fun y H7 => ∃ acc, H7 D = some (.lst acc) ∧ acc.length < sizeLine ∧
                  (fun i H' => H1 D = none ∧ Ex H1 H' ∧ H' D = some (.lst (List.replicate i (V.bl true)))) (i + 1) (upd H7 D (.lst (acc ++ [y]))) else (fun i H' => H1 D = none ∧ Ex H1 H' ∧ H' D = some (.lst (List.replicate i (V.bl true)))) (i + 1) H6 := by
            intro D i v H3 H4 hi hp hy4
            obtain ⟨T1, u1, u2, rfl, hT, rfl, g1, g2⟩ := hy4
            obtain ⟨hD, ex3, hD3⟩ := hp
            have ex4 : Ex H3 (upd H3 T1 (.tup [u1, u2])) := Ex.new hT
            refine ⟨T1, [u1, u2], rfl, st_of upd_same, rfl, u1, [u2], rfl, u2, [], rfl, rfl, rfl, ?_⟩
            refine ⟨u1, rfl, u2, rfl, u1, u2, rfl, (hh i u1 u2 g1 g2).mono (ex3.trans ex4), fun H7 e7 => ?_⟩
            refine ⟨_, e7 _ _ (ex4 _ _ hD3), ?_, hD, ((ex3.trans ex4).trans e7).mut hD, ?_⟩
            · rw [List.length_replicate]
              exact sz_lt (by omega)
            · rw [upd_same, List.replicate_succ']
          have fin : ∀ (D : Addr) (H' : Hp), (H1 D = none ∧ Ex H1 H' ∧ H' D = some (.lst (List.replicate xs.length (V.bl true)))) → tNil [some (V.ref p1), some (V.ref p2), none, none, none] H' fun xs H2 => rAll K (V.ref D :: xs) H2 Q := by
            intro D H' hp
            refine ⟨D, List.replicate xs.length true, rfl, sq_of (hp.2.2.trans (by rw [List.map_replicate])), ?_⟩
            rw [show (List.replicate xs.length true).all id = true by simp]
            exact q _ (e1.trans hp.2.1)
          rcases ho with ⟨h1, h2⟩ | ⟨h1, h2⟩
          · refine ⟨_, rfl, _, rfl, p1, p2, xs, ys, rfl, .inl ⟨sq_of h1, sq_of h2, fun D hD => lc_it (walk_zip (n := xs.length) (by omega)) (fun i H' => H1 D = none ∧ Ex H1 H' ∧ H' D = some (.lst (List.replicate i (V.bl true)))) ⟨hD, Ex.new hD, upd_same⟩ (fun i H' _ hp => ⟨sq_of (hp.2.1 _ _ h1), sq_of (hp.2.1 _ _ h2)⟩) (fun i v H3 H4 hi hp hy4 => turn D i v H3 H4 hi hp hy4) (fun H' hp => fin D H' hp)⟩⟩
          · refine ⟨_, rfl, _, rfl, p1, p2, xs, ys, rfl, .inr ⟨st_of h1, st_of h2, fun D hD => lc_it (walk_zipT (n := xs.length) (by omega)) (fun i H' => H1 D = none ∧ Ex H1 H' ∧ H' D = some (.lst (List.replicate i (V.bl true)))) ⟨hD, Ex.new hD, upd_same⟩ (fun i H' _ hp => ⟨st_of (hp.2.1 _ _ h1), st_of (hp.2.1 _ _ h2)⟩) (fun i v H3 H4 hi hp hy4 => turn D i v H3 H4 hi hp hy4) (fun H' hp => fin D H' hp)⟩⟩
end
end Eyes

set_option Elab.async false
set_option linter.all false
set_option maxRecDepth 100000
set_option maxHeartbeats 4000000
namespace Eyes
open PySem PySem.Spec PyProof.Rows L2 Evl TL
/-! ### the lattice -/
def Le (n : Nat) (p q : List Nat) : Prop := ∀ x y, 1 ≤ x → x ≤ n → 1 ≤ y → y ≤ n → ali p x y → ali q x y
theorem Le.refl {n : Nat} {p : List Nat} : Le n p p := fun _ _ _ _ _ _ h => h
theorem Le.trans {n : Nat} {p q r : List Nat} (h : Le n p q) (g : Le n q r) : Le n p r := fun x y h1 h2 h3 h4 a => g x y h1 h2 h3 h4 (h x y h1 h2 h3 h4 a)
theorem Le.anti {n : Nat} {p q : List Nat} (hp : IsP n p) (hq : IsP n q) (h : Le n p q) (g : Le n q p) : p = q := isP_ext hp hq fun x y h1 h2 h3 h4 => ⟨h x y h1 h2 h3 h4, g x y h1 h2 h3 h4⟩
theorem inn_iff {n : Nat} {p q : List Nat} (hp : IsP n p) : inn p q = true ↔ Le n p q := by
  unfold inn
  rw [List.all_eq_true, hp.len]
  constructor
  · intro h x y h1 h2 h3 h4 a
    have e1 := of_decide_eq_true (h (x - 1) (List.mem_range.mpr (by omega)))
    have e2 := of_decide_eq_true (h (y - 1) (List.mem_range.mpr (by omega)))
    rw [show x - 1 + 1 = x by omega] at e1
    rw [show y - 1 + 1 = y by omega] at e2
    show itm q x = itm q y
    rw [e1, e2, show itm p x = itm p y from a]
  · intro h k hk
    have hk := List.mem_range.mp hk
    have lo := hp.lo (k + 1) (by omega) (by omega)
    exact decide_eq_true (h (k + 1) (itm p (k + 1)) (by omega) (by omega) lo.1 (by omega) (hp.rt (k + 1) (by omega) (by omega)).symm)
theorem inn_yes {n : Nat} {p q : List Nat} (hp : IsP n p) (h : Le n p q) : inn p q = true := (inn_iff hp).mpr h
theorem met_isP {n : Nat} {p q : List Nat} : IsP n (metN n [p, q]) := metN_isP n [p, q]
theorem join_isP {n : Nat} {p q : List Nat} (hp : IsP n p) (hq : IsP n q) : IsP n (joinN n p q) := isP_mrgs hp (numd_in hq)
theorem met_le_l {n : Nat} {p q : List Nat} : Le n (metN n [p, q]) p := fun x y h1 h2 h3 h4 a => (metN_ali h1 h2 h3 h4).mp a p List.mem_cons_self
theorem met_le_r {n : Nat} {p q : List Nat} : Le n (metN n [p, q]) q := fun x y h1 h2 h3 h4 a => (metN_ali h1 h2 h3 h4).mp a q (List.mem_cons_of_mem _ List.mem_cons_self)
theorem le_met {n : Nat} {p q r : List Nat} (h : Le n r p) (g : Le n r q) : Le n r (metN n [p, q]) := fun x y h1 h2 h3 h4 a => (metN_ali h1 h2 h3 h4).mpr fun z hz => by
  rcases List.mem_cons.mp hz with rfl | hz
  · exact h x y h1 h2 h3 h4 a
  · rw [List.mem_singleton.mp hz]
    exact g x y h1 h2 h3 h4 a
theorem le_join_l {n : Nat} {p q : List Nat} (hp : IsP n p) (hq : IsP n q) : Le n p (joinN n p q) := fun x y h1 h2 h3 h4 a => mrgs_keeps hp (numd_in hq) ⟨h1, h2⟩ ⟨h3, h4⟩ a
theorem le_join_r {n : Nat} {p q : List Nat} (hp : IsP n p) (hq : IsP n q) : Le n q (joinN n p q) := fun x y h1 h2 h3 h4 a => by
  have e1 : ali (joinN n p q) x (itm q x) := mrgs_joins hp (numd_in hq) (mem_numd h1 h2)
  have e2 : ali (joinN n p q) y (itm q y) := mrgs_joins hp (numd_in hq) (mem_numd h3 h4)
  have a : itm q x = itm q y := a
  unfold ali at e1 e2 ⊢
  rw [e1, e2, a]
theorem join_le {n : Nat} {p q r : List Nat} (hp : IsP n p) (hq : IsP n q) (h : Le n p r) (g : Le n q r) : Le n (joinN n p q) r := fun x y h1 h2 h3 h4 a =>
  mrgs_least (f := itm r) hp (numd_in hq) h (fun xy hxy => by
    obtain ⟨g1, g2, g3⟩ := numd_mem hxy
    have lo := hq.lo xy.1 g1 g2
    rw [g3]
    exact g xy.1 (itm q xy.1) g1 g2 lo.1 (by omega) (hq.rt xy.1 g1 g2).symm) ⟨h1, h2⟩ ⟨h3, h4⟩ a
section
variable {n : Nat} {p q r : List Nat}
theorem met_comm : metN n [q, p] = metN n [p, q] := Le.anti met_isP met_isP (le_met met_le_r met_le_l) (le_met met_le_r met_le_l)
theorem join_comm (hp : IsP n p) (hq : IsP n q) : joinN n q p = joinN n p q := Le.anti (join_isP hq hp) (join_isP hp hq) (join_le hq hp (le_join_r hp hq) (le_join_l hp hq)) (join_le hp hq (le_join_r hq hp) (le_join_l hq hp))
theorem join_met (hp : IsP n p) : joinN n p (metN n [p, q]) = p := Le.anti (join_isP hp met_isP) hp (join_le hp met_isP Le.refl met_le_l) (le_join_l hp met_isP)
theorem met_join (hp : IsP n p) (hq : IsP n q) : metN n [p, joinN n p q] = p := Le.anti met_isP hp met_le_l (le_met Le.refl (le_join_l hp hq))
theorem met_self (hp : IsP n p) : metN n [p, p] = p := Le.anti met_isP hp met_le_l (le_met Le.refl Le.refl)
theorem join_self (hp : IsP n p) : joinN n p p = p := Le.anti (join_isP hp hp) hp (join_le hp hp Le.refl Le.refl) (le_join_l hp hp)
theorem inn_met (hr : IsP n r) : inn r (metN n [p, q]) = (inn r p && inn r q) := by
  rw [Bool.eq_iff_iff, Bool.and_eq_true, inn_iff hr, inn_iff hr, inn_iff hr]
  exact ⟨fun h => ⟨h.trans met_le_l, h.trans met_le_r⟩, fun h => le_met h.1 h.2⟩
theorem inn_join (hp : IsP n p) (hq : IsP n q) : inn (joinN n p q) r = (inn p r && inn q r) := by
  rw [Bool.eq_iff_iff, Bool.and_eq_true, inn_iff (join_isP hp hq), inn_iff hp, inn_iff hq]
  exact ⟨fun h => ⟨(le_join_l hp hq).trans h, (le_join_r hp hq).trans h⟩, fun h => join_le hp hq h.1 h.2⟩
theorem join_assoc (hp : IsP n p) (hq : IsP n q) (hr : IsP n r) : joinN n (joinN n p q) r = joinN n p (joinN n q r) := by
  have a := join_isP hp hq
  have b := join_isP hq hr
  refine Le.anti (join_isP a hr) (join_isP hp b) (join_le a hr (join_le hp hq (le_join_l hp b) ((le_join_l hq hr).trans (le_join_r hp b))) ((le_join_r hq hr).trans (le_join_r hp b))) (join_le hp b ((le_join_l hp hq).trans (le_join_l a hr)) (join_le hq hr ((le_join_r hp hq).trans (le_join_l a hr)) (le_join_r a hr)))
theorem met_assoc : metN n [metN n [p, q], r] = metN n [p, metN n [q, r]] := Le.anti met_isP met_isP (le_met (met_le_l.trans met_le_l) (le_met (met_le_l.trans met_le_r) met_le_r)) (le_met (le_met met_le_l (met_le_r.trans met_le_l)) (met_le_r.trans met_le_r))
end
theorem okV_nats {n : Nat} {p : List Nat} (h : IsP n p) (hn : n ≤ 4096) : okV (.tuple (ndats p)) := by
  have d : PyData.depthAll (ndats p) ≤ 0 := depthAll_of fun d hd => by
    obtain ⟨x, _, rfl⟩ := List.mem_map.mp hd
    exact Nat.le_refl _
  have wd : widAll (ndats p) = 0 := by
    unfold ndats
    induction p with
    | nil => rfl
    | cons x p ih =>
      clear h d
      have : ∀ l : List Nat, widAll (l.map fun x : Nat => PyData.int (x : Int)) = 0 := fun l => by
        induction l with
        | nil => rfl
        | cons y l ih =>
          show max 0 (widAll (l.map fun x : Nat => PyData.int (x : Int))) = 0
          rw [ih]
          rfl
      exact this _
  have ll : (ndats p).length = n := by
    unfold ndats
    rw [List.length_map, h.len]
  refine ⟨by simp only [PyData.depth]; omega, by simp only [wid]; omega, layAll_of fun d hd => ?_⟩
  obtain ⟨x, _, rfl⟩ := List.mem_map.mp hd
  rfl
theorem rows_go {K : PySem.W.Frag} {AA : Adr} {good : Nat → List Nat → List Nat → Hp → VK → Prop} {n : Nat} {a b : Addr} {p q : List Nat} {H : Hp} {Q : VK} {E : XK} (ha : H a = some (.tup (nvs p))) (hb : H b = some (.tup (nvs q))) (hP : IsP n p) (hQ : IsP n q) (h1 : 1 ≤ n) (hn : n ≤ 4096) (h : good n p q H Q) : spTwoP AA good [.ref a, .ref b] H Q E :=
  ⟨.ref a, _, .ref b, _, rfl, rep_of_nvs ha, okV_nats hP hn, rep_of_nvs hb, okV_nats hQ hn, .inl ⟨n, p, q, rfl, rfl, h1, hn, hP, hQ, h⟩⟩
theorem rows_sm {C : Addr} {H : Hp} {n : Nat} {a b : Addr} {p : List Nat} {k : Nat} (ha : H a = some (.tup (nvs p))) (hb : H b = some (.tup (nvs p))) (hP : IsP n p) (hn : n ≤ 4096) : Sm C H (k + 2) (.ref a) (.ref b) :=
  .tup ha hb rfl (by rw [nvs_len, hP.len]; omega) fun i u v e1 e2 => by
    rw [e1] at e2
    cases e2
    unfold nvs at e1
    rw [List.getElem?_map] at e1
    obtain ⟨y, _, rfl⟩ := Option.map_eq_some_iff.mp e1
    exact .sc (.inr (.inr (.inl ⟨_, rfl⟩)))
def Row (H : Hp) (n : Nat) (v : V) (p : List Nat) : Prop := ∃ a, v = .ref a ∧ H a = some (.tup (nvs p)) ∧ IsP n p
theorem Row.mono {H H' : Hp} {n : Nat} {v : V} {p : List Nat} (h : Row H n v p) (e : Ex H H') : Row H' n v p := by
  obtain ⟨a, h1, h2, h3⟩ := h
  exact ⟨a, h1, e _ _ h2, h3⟩
theorem Row.sm {C : Addr} {H : Hp} {n k : Nat} {u v : V} {p : List Nat} (h : Row H n u p) (g : Row H n v p) (hn : n ≤ 4096) : Sm C H (k + 2) u v := by
  obtain ⟨a, rfl, h2, h3⟩ := h
  obtain ⟨b, rfl, g2, _⟩ := g
  exact rows_sm h2 g2 h3 hn
inductive Sms (C : Addr) (H : Hp) (n : Nat) : List V → List V → Prop
  | nil : Sms C H n [] []
  | cons {x y : V} {xs ys : List V} : Sm C H n x y → Sms C H n xs ys → Sms C H n (x :: xs) (y :: ys)
theorem Sms.len {C : Addr} {H : Hp} {n : Nat} {xs ys : List V} (h : Sms C H n xs ys) : xs.length = ys.length := by
  induction h with
  | nil => rfl
  | cons _ _ ih =>
    rw [List.length_cons, List.length_cons, ih]
theorem Sms.get {C : Addr} {H : Hp} {n : Nat} {xs ys : List V} (h : Sms C H n xs ys) : ∀ (i : Nat) (u v : V), xs[i]? = some u → ys[i]? = some v → Sm C H n u v := by
  induction h with
  | nil =>
    intro i u v e1 _
    cases e1
  | cons h1 _ ih =>
    intro i u v e1 e2
    match i, e1, e2 with
    | 0, e1, e2 =>
      cases e1
      cases e2
      exact h1
    | i + 1, e1, e2 => exact ih i u v e1 e2
theorem Sms.lst {C : Addr} {H : Hp} {n : Nat} {a b : Addr} {xs ys : List V} (h : Sms C H n xs ys) (ha : H a = some (.lst xs)) (hb : H b = some (.lst ys)) (hl : xs.length ≤ 90000) : Sm C H (n + 1) (.ref a) (.ref b) := .lst ha hb h.len hl h.get
theorem Sms.tup {C : Addr} {H : Hp} {n : Nat} {a b : Addr} {xs ys : List V} (h : Sms C H n xs ys) (ha : H a = some (.tup xs)) (hb : H b = some (.tup ys)) (hl : xs.length ≤ 90000) : Sm C H (n + 1) (.ref a) (.ref b) := .tup ha hb h.len hl h.get
theorem Sm.bl {C : Addr} {H : Hp} {n : Nat} {b c : Bool} (e : b = c) : Sm C H (n + 1) (.bl b) (.bl c) := e ▸ .sc (.inr (.inl ⟨_, rfl⟩))
theorem Sm.int' {C : Addr} {H : Hp} {n : Nat} {b : Int} : Sm C H (n + 1) (.int b) (.int b) := .sc (.inr (.inr (.inl ⟨_, rfl⟩)))
theorem Sm.str' {C : Addr} {H : Hp} {n : Nat} {b : Str} : Sm C H (n + 1) (.str b) (.str b) := .sc (.inr (.inr (.inr ⟨_, rfl⟩)))
theorem andV_go {t1 t2 : TE} {σ : List (Option V)} {H : Hp} {F : VK} {b c : Bool} (h1 : ∀ Q : VK, (∀ H', Ex H H' → Q (.bl b) H') → t1 σ H Q) (h2 : ∀ H1 (Q : VK), Ex H H1 → (∀ H', Ex H1 H' → Q (.bl c) H') → t2 σ H1 Q) (h : ∀ H', Ex H H' → F (.bl (b && c)) H') : tAndV t1 t2 σ H F := by
  refine h1 _ fun H1 e1 => ⟨b, rfl, ?_⟩
  cases b with
  | false => exact iteF (h H1 e1)
  | true => exact iteT (h2 H1 _ e1 fun H2 e2 => h H2 (e1.trans e2))
def spLattice : Sp := fun vs H Q _ => ∃ (n : Nat) (a b c : Addr) (p q r : List Nat), vs = [.ref a, .ref b, .ref c] ∧ H a = some (.tup (nvs p)) ∧ H b = some (.tup (nvs q)) ∧ H c = some (.tup (nvs r)) ∧ IsP n p ∧ IsP n q ∧ IsP n r ∧ 1 ≤ n ∧ n ≤ 4096 ∧ ∀ H', Ex H H' → Q (.bl true) H'
section
variable {P : Program} {w : World} {K : PySem.W.Frag} {mg : Str → Option Value} {base : Heap} {AA : Adr}
theorem ok_law_lattice_so (T : Txt K mg AA) : Pr P w K mg base "_law_lattice_so" s_law_lattice_so p_law_lattice_so 15 spLattice := by
  refine pr_mk T.f_law_lattice_so sc_law_lattice_so (fun vs H Q E h => ?_) (fun f cdv A outer s H vs Q E hr h => ?_)
  · obtain ⟨n, a, b, c, p, q, r, rfl, _⟩ := h
    rfl
  · obtain ⟨n, a, b, c, p, q, r, rfl, ha, hb, hc, hP, hQ, hR, h1, hn, qq⟩ := h
    refine ⟨_, (pss_cons (ps_par (i := 3) (j := 4) rfl sc_law_lattice_so.nd rfl rfl (by decide) rfl rfl (pa_cons (pcall (ok_law_met T) hr (pa_cons (pv 0) (pa_cons (pv 1) pa_nil))) (pa_cons (pcall (ok_law_joined T) hr (pa_cons (pv 0) (pa_cons (pv 1) pa_nil))) pa_nil)) rfl)
      (pss_cons (ps_set (i := 5) sc_law_lattice_so.nd rfl (.inl rfl) (pe_lst (pa_cons (pcallY (ok_meet_of T) hr (pa_cons (pv 0) (pa_cons (pv 1) pa_nil))) (pa_cons (pcallYN0 (ok_meet_of T) kw_meet_of_0_second_first hr (pk_cons (pv 0) (pk_cons (pv 1) pk_nil))) (pa_cons (pcallY (ok_join_of T) hr (pa_cons (pv 0) (pa_cons (pv 1) pa_nil))) (pa_cons (pcallYN0 (ok_join_of T) kw_join_of_0_second_first hr (pk_cons (pv 0) (pk_cons (pv 1) pk_nil))) (pa_cons (pcallY (ok_is_within T) hr (pa_cons (pv 0) (pa_cons (pv 1) pa_nil))) (pa_cons (pcallYN0 (ok_is_within T) kw_is_within_0_second_first hr (pk_cons (pv 0) (pk_cons (pv 1) pk_nil))) pa_nil))))))))
      (pss_cons (ps_if (pt_not (pt_val (pcall (ok_law_sm T 12) hr (pa_cons (pv 5) (pa_cons (pe_lst (pa_cons (pv 3) (pa_cons (pv 3) (pa_cons (pv 4) (pa_cons (pv 4) (pa_cons (pcall (ok_law_inner T) hr (pa_cons (pv 0) (pa_cons (pv 1) pa_nil))) (pa_cons (pcall (ok_law_inner T) hr (pa_cons (pv 1) (pa_cons (pv 0) pa_nil))) pa_nil))))))) pa_nil)))))
      (pss_one (ps_ret pe_bl))
      pss_nil)
      (pss_cons (ps_set (i := 5) sc_law_lattice_so.nd rfl (.inl rfl) (pe_lst (pa_cons (pcallY (ok_is_within T) hr (pa_cons (pv 3) (pa_cons (pv 0) pa_nil))) (pa_cons (pcallY (ok_is_within T) hr (pa_cons (pv 3) (pa_cons (pv 1) pa_nil))) (pa_cons (pcallY (ok_is_within T) hr (pa_cons (pv 0) (pa_cons (pv 4) pa_nil))) (pa_cons (pcallY (ok_is_within T) hr (pa_cons (pv 1) (pa_cons (pv 4) pa_nil))) (pa_cons (pcallY (ok_join_of T) hr (pa_cons (pv 0) (pa_cons (pv 3) pa_nil))) (pa_cons (pcallY (ok_meet_of T) hr (pa_cons (pv 0) (pa_cons (pv 4) pa_nil))) pa_nil))))))))
      (pss_cons (ps_if (pt_not (pt_val (pcall (ok_law_sm T 12) hr (pa_cons (pv 5) (pa_cons (pe_lst (pa_cons pe_bl (pa_cons pe_bl (pa_cons pe_bl (pa_cons pe_bl (pa_cons (pv 0) (pa_cons (pv 0) pa_nil))))))) pa_nil)))))
      (pss_one (ps_ret pe_bl))
      pss_nil)
      (pss_cons (ps_set (i := 5) sc_law_lattice_so.nd rfl (.inl rfl) (pe_lst (pa_cons (pcallY (ok_is_within T) hr (pa_cons (pv 2) (pa_cons (pv 3) pa_nil))) (pa_cons (pcallY (ok_is_within T) hr (pa_cons (pv 4) (pa_cons (pv 2) pa_nil))) (pa_cons (pcallY (ok_meet_of T) hr (pa_cons (pv 0) (pa_cons (pv 0) pa_nil))) (pa_cons (pcallY (ok_join_of T) hr (pa_cons (pv 1) (pa_cons (pv 1) pa_nil))) (pa_cons (pcallY (ok_is_within T) hr (pa_cons (pv 0) (pa_cons (pv 0) pa_nil))) (pa_cons (pcallY (ok_join_of T) hr (pa_cons (pv 4) (pa_cons (pv 2) pa_nil))) pa_nil))))))))
      (pss_cons (ps_set (i := 6) sc_law_lattice_so.nd rfl (.inl rfl) (pe_lst (pa_cons (pe_and (pcall (ok_law_inner T) hr (pa_cons (pv 2) (pa_cons (pv 0) pa_nil))) (pe_one (pcall (ok_law_inner T) hr (pa_cons (pv 2) (pa_cons (pv 1) pa_nil))))) (pa_cons (pe_and (pcall (ok_law_inner T) hr (pa_cons (pv 0) (pa_cons (pv 2) pa_nil))) (pe_one (pcall (ok_law_inner T) hr (pa_cons (pv 1) (pa_cons (pv 2) pa_nil))))) (pa_cons (pv 0) (pa_cons (pv 1) (pa_cons pe_bl (pa_cons (pcallY (ok_join_of T) hr (pa_cons (pv 0) (pa_cons (pcallY (ok_join_of T) hr (pa_cons (pv 1) (pa_cons (pv 2) pa_nil))) pa_nil))) pa_nil))))))))
      (pss_one (ps_ret (pe_and (pcall (ok_law_sm T 12) hr (pa_cons (pv 5) (pa_cons (pv 6) pa_nil))) (pe_one (pcall (ok_law_sm T 12) hr (pa_cons (pcallY (ok_meet_of T) hr (pa_cons (pv 3) (pa_cons (pv 2) pa_nil))) (pa_cons (pcallY (ok_meet_of T) hr (pa_cons (pv 0) (pa_cons (pcallY (ok_meet_of T) hr (pa_cons (pv 1) (pa_cons (pv 2) pa_nil))) pa_nil))) pa_nil)))))))))))))), ?_⟩
    have mp := met_isP (n := n) (p := p) (q := q)
    have jp := join_isP hP hQ
    refine ⟨_, rfl, _, rfl, n, a, b, p, q, rfl, st_of ha, st_of hb, hP, hQ, h1, hn, fun m Hm em nm hm => ?_⟩
    refine ⟨_, rfl, _, rfl, n, a, b, p, q, rfl, hn, st_of (em _ _ ha), hP, st_of (em _ _ hb), hQ, fun j H1 ej nj hj => ?_⟩
    have hj : H1 j = some (.tup (nvs (joinN n p q))) := hj
    have x0 := em.trans ej
    have ha := x0 _ _ ha
    have hb := x0 _ _ hb
    have hc := x0 _ _ hc
    have hm := ej _ _ hm
    have qq : ∀ H', Ex H1 H' → Q (V.bl true) H' := fun H' e => qq H' (x0.trans e)
    clear x0 em ej nm nj
    -- six answers
    refine ⟨_, _, rfl, _, rfl, _, rfl, ⟨_, _, _, _, rfl, rep_of_nvs ha, okV_nats hP hn, rep_of_nvs hb, okV_nats hQ hn, .inl ⟨_, _, _, rfl, rfl, h1, hn, hP, hQ, fun r1 H2 e2 n2 g1 => ?_⟩⟩⟩
    have R1 : Row H2 n (.ref r1) (metN n [p, q]) := ⟨_, rfl, g1, mp⟩
    refine ⟨_, rfl, _, rfl, rfl, rfl, ⟨_, _, _, _, rfl, rep_of_nvs (e2 _ _ hb), okV_nats hQ hn, rep_of_nvs (e2 _ _ ha), okV_nats hP hn, .inl ⟨_, _, _, rfl, rfl, h1, hn, hQ, hP, fun r2 H3 e3 n3 g2 => ?_⟩⟩⟩
    have R2 : Row H3 n (.ref r2) (metN n [p, q]) := ⟨_, rfl, by rw [← met_comm]; exact g2, mp⟩
    have x3 := e2.trans e3
    refine ⟨_, rfl, _, rfl, ⟨_, _, _, _, rfl, rep_of_nvs (x3 _ _ ha), okV_nats hP hn, rep_of_nvs (x3 _ _ hb), okV_nats hQ hn, .inl ⟨_, _, _, rfl, rfl, h1, hn, hP, hQ, fun r3 H4 e4 n4 g3 => ?_⟩⟩⟩
    have R3 : Row H4 n (.ref r3) (joinN n p q) := ⟨_, rfl, g3, jp⟩
    have x4 := x3.trans e4
    refine ⟨_, rfl, _, rfl, rfl, rfl, ⟨_, _, _, _, rfl, rep_of_nvs (x4 _ _ hb), okV_nats hQ hn, rep_of_nvs (x4 _ _ ha), okV_nats hP hn, .inl ⟨_, _, _, rfl, rfl, h1, hn, hQ, hP, fun r4 H5 e5 n5 g4 => ?_⟩⟩⟩
    have R4 : Row H5 n (.ref r4) (joinN n p q) := ⟨_, rfl, by rw [← join_comm hP hQ]; exact g4, jp⟩
    have x5 := x4.trans e5
    refine ⟨_, rfl, _, rfl, ⟨_, _, _, _, rfl, rep_of_nvs (x5 _ _ ha), okV_nats hP hn, rep_of_nvs (x5 _ _ hb), okV_nats hQ hn, .inl ⟨_, _, _, rfl, rfl, h1, hn, hP, hQ, fun H6 e6 => ?_⟩⟩⟩
    have x6 := x5.trans e6
    refine ⟨_, rfl, _, rfl, rfl, rfl, ⟨_, _, _, _, rfl, rep_of_nvs (x6 _ _ hb), okV_nats hQ hn, rep_of_nvs (x6 _ _ ha), okV_nats hP hn, .inl ⟨_, _, _, rfl, rfl, h1, hn, hQ, hP, fun H7 e7 => ⟨by show 6 ≤ sizeLine; decide, fun l nl => ?_⟩⟩⟩⟩
    have x7 := x6.trans (e7.trans (Ex.new (o := .lst [.ref r1, .ref r2, .ref r3, .ref r4, .bl (inn p q), .bl (inn q p)]) nl))
    have R1 := R1.mono (e3.trans (e4.trans (e5.trans (e6.trans (e7.trans (Ex.new (o := .lst [.ref r1, .ref r2, .ref r3, .ref r4, .bl (inn p q), .bl (inn q p)]) nl))))))
    have R2 := R2.mono (e4.trans (e5.trans (e6.trans (e7.trans (Ex.new (o := .lst [.ref r1, .ref r2, .ref r3, .ref r4, .bl (inn p q), .bl (inn q p)]) nl)))))
    have R3 := R3.mono (e5.trans (e6.trans (e7.trans (Ex.new (o := .lst [.ref r1, .ref r2, .ref r3, .ref r4, .bl (inn p q), .bl (inn q p)]) nl))))
    have R4 := R4.mono (e6.trans (e7.trans (Ex.new (o := .lst [.ref r1, .ref r2, .ref r3, .ref r4, .bl (inn p q), .bl (inn q p)]) nl)))
    have hl : (upd H7 l (.lst [.ref r1, .ref r2, .ref r3, .ref r4, .bl (inn p q), .bl (inn q p)])) l = _ := upd_same
    generalize upd H7 l (.lst [.ref r1, .ref r2, .ref r3, .ref r4, .bl (inn p q), .bl (inn q p)]) = H8 at x7 R1 R2 R3 R4 hl ⊢
    have M8 : Row H8 n (.ref m) (metN n [p, q]) := ⟨_, rfl, x7 _ _ hm, mp⟩
    have J8 : Row H8 n (.ref j) (joinN n p q) := ⟨_, rfl, x7 _ _ hj, jp⟩
    refine ⟨_, rfl, _, rfl, _, rfl, _, rfl, _, rfl, _, rfl, _, rfl, n, a, b, p, q, rfl, hn, st_of (x7 _ _ ha), hP, st_of (x7 _ _ hb), hQ, fun H9 e9 => ?_⟩
    have x9 := x7.trans e9
    refine ⟨_, rfl, _, rfl, n, b, a, q, p, rfl, hn, st_of (x9 _ _ hb), hQ, st_of (x9 _ _ ha), hP, fun H10 e10 => ⟨by show 6 ≤ sizeLine; decide, fun l2 nl2 => ?_⟩⟩
    have y := e9.trans (e10.trans (Ex.new (o := .lst [.ref m, .ref m, .ref j, .ref j, .bl (inn p q), .bl (inn q p)]) nl2))
    refine ⟨_, _, rfl, Sms.lst (.cons ((R1.mono y).sm (M8.mono y) hn) (.cons ((R2.mono y).sm (M8.mono y) hn) (.cons ((R3.mono y).sm (J8.mono y) hn) (.cons ((R4.mono y).sm (J8.mono y) hn) (.cons (.bl rfl) (.cons (.bl rfl) .nil)))))) (y _ _ hl) upd_same (by show 6 ≤ 90000; decide), fun H11 e11 => ⟨_, rfl, iteF ?_⟩⟩
    have z1 := x7.trans (y.trans e11)
    clear y R1 R2 R3 R4 hl M8 J8 x7 x9 x3 x4 x5 x6 e2 e3 e4 e5 e6 e7 e9 e10 e11 g1 g2 g3 g4 nl nl2 n2 n3 n4 n5
    have ha := z1 _ _ ha
    have hb := z1 _ _ hb
    have hc := z1 _ _ hc
    have hm := z1 _ _ hm
    have hj := z1 _ _ hj
    have qq : ∀ H', Ex H11 H' → Q (V.bl true) H' := fun H' e => qq H' (z1.trans e)
    clear z1
    -- within, and taken back
    refine ⟨_, rfl, _, rfl, ⟨_, _, _, _, rfl, rep_of_nvs hm, okV_nats mp hn, rep_of_nvs ha, okV_nats hP hn, .inl ⟨_, _, _, rfl, rfl, h1, hn, mp, hP, fun H2 e2 => ?_⟩⟩⟩
    refine ⟨_, rfl, _, rfl, ⟨_, _, _, _, rfl, rep_of_nvs (e2 _ _ hm), okV_nats mp hn, rep_of_nvs (e2 _ _ hb), okV_nats hQ hn, .inl ⟨_, _, _, rfl, rfl, h1, hn, mp, hQ, fun H3 e3 => ?_⟩⟩⟩
    have x3 := e2.trans e3
    refine ⟨_, rfl, _, rfl, ⟨_, _, _, _, rfl, rep_of_nvs (x3 _ _ ha), okV_nats hP hn, rep_of_nvs (x3 _ _ hj), okV_nats jp hn, .inl ⟨_, _, _, rfl, rfl, h1, hn, hP, jp, fun H4 e4 => ?_⟩⟩⟩
    have x4 := x3.trans e4
    refine ⟨_, rfl, _, rfl, ⟨_, _, _, _, rfl, rep_of_nvs (x4 _ _ hb), okV_nats hQ hn, rep_of_nvs (x4 _ _ hj), okV_nats jp hn, .inl ⟨_, _, _, rfl, rfl, h1, hn, hQ, jp, fun H5 e5 => ?_⟩⟩⟩
    have x5 := x4.trans e5
    refine ⟨_, rfl, _, rfl, ⟨_, _, _, _, rfl, rep_of_nvs (x5 _ _ ha), okV_nats hP hn, rep_of_nvs (x5 _ _ hm), okV_nats mp hn, .inl ⟨_, _, _, rfl, rfl, h1, hn, hP, mp, fun r5 H6 e6 n6 g5 => ?_⟩⟩⟩
    have x6 := x5.trans e6
    have R5 : Row H6 n (.ref r5) p := ⟨_, rfl, by rw [join_met hP] at g5; exact g5, hP⟩
    refine ⟨_, rfl, _, rfl, ⟨_, _, _, _, rfl, rep_of_nvs (x6 _ _ ha), okV_nats hP hn, rep_of_nvs (x6 _ _ hj), okV_nats jp hn, .inl ⟨_, _, _, rfl, rfl, h1, hn, hP, jp, fun r6 H7 e7 n7 g6 => ⟨by show 6 ≤ sizeLine; decide, fun l nl => ?_⟩⟩⟩⟩
    have x7 := x6.trans e7
    have R6 : Row H7 n (.ref r6) p := ⟨_, rfl, by rw [met_join hP hQ] at g6; exact g6, hP⟩
    rw [inn_yes (q := p) mp met_le_l, inn_yes (q := q) mp met_le_r, inn_yes hP (le_join_l hP hQ), inn_yes hQ (le_join_r hP hQ)]
    have y1 := Ex.new (o := .lst [.bl true, .bl true, .bl true, .bl true, .ref r5, .ref r6]) nl
    refine ⟨_, rfl, _, rfl, _, rfl, by show 6 ≤ sizeLine; decide, fun l2 nl2 => ?_⟩
    have y2 := Ex.new (o := .lst [.bl true, .bl true, .bl true, .bl true, .ref a, .ref a]) nl2
    have y := y1.trans y2
    have A8 : Row _ n (.ref a) p := ⟨_, rfl, (x7.trans y) _ _ ha, hP⟩
    refine ⟨_, _, rfl, Sms.lst (.cons (.bl rfl) (.cons (.bl rfl) (.cons (.bl rfl) (.cons (.bl rfl) (.cons ((R5.mono (e7.trans y)).sm A8 hn) (.cons ((R6.mono y).sm A8 hn) .nil)))))) (y2 _ _ upd_same) upd_same (by show 6 ≤ 90000; decide), fun H11 e11 => ⟨_, rfl, iteF ?_⟩⟩
    have z1 := x7.trans (y.trans e11)
    clear y R5 R6 A8 x7 x3 x4 x5 x6 e2 e3 e4 e5 e6 e7 e11 g5 g6 nl nl2 n6 n7 y1 y2
    have ha := z1 _ _ ha
    have hb := z1 _ _ hb
    have hc := z1 _ _ hc
    have hm := z1 _ _ hm
    have hj := z1 _ _ hj
    have qq : ∀ H', Ex H11 H' → Q (V.bl true) H' := fun H' e => qq H' (z1.trans e)
    clear z1
    -- the greatest and the least
    refine ⟨_, rfl, _, rfl, ⟨_, _, _, _, rfl, rep_of_nvs hc, okV_nats hR hn, rep_of_nvs hm, okV_nats mp hn, .inl ⟨_, _, _, rfl, rfl, h1, hn, hR, mp, fun H2 e2 => ?_⟩⟩⟩
    refine ⟨_, rfl, _, rfl, ⟨_, _, _, _, rfl, rep_of_nvs (e2 _ _ hj), okV_nats jp hn, rep_of_nvs (e2 _ _ hc), okV_nats hR hn, .inl ⟨_, _, _, rfl, rfl, h1, hn, jp, hR, fun H3 e3 => ?_⟩⟩⟩
    have x3 := e2.trans e3
    refine ⟨_, rfl, _, rfl, ⟨_, _, _, _, rfl, rep_of_nvs (x3 _ _ ha), okV_nats hP hn, rep_of_nvs (x3 _ _ ha), okV_nats hP hn, .inl ⟨_, _, _, rfl, rfl, h1, hn, hP, hP, fun r3 H4 e4 n4 g3 => ?_⟩⟩⟩
    have R3 : Row H4 n (.ref r3) p := ⟨_, rfl, by rw [met_self hP] at g3; exact g3, hP⟩
    have x4 := x3.trans e4
    refine ⟨_, rfl, _, rfl, ⟨_, _, _, _, rfl, rep_of_nvs (x4 _ _ hb), okV_nats hQ hn, rep_of_nvs (x4 _ _ hb), okV_nats hQ hn, .inl ⟨_, _, _, rfl, rfl, h1, hn, hQ, hQ, fun r4 H5 e5 n5 g4 => ?_⟩⟩⟩
    have R4 : Row H5 n (.ref r4) q := ⟨_, rfl, by rw [join_self hQ] at g4; exact g4, hQ⟩
    have x5 := x4.trans e5
    refine ⟨_, rfl, _, rfl, ⟨_, _, _, _, rfl, rep_of_nvs (x5 _ _ ha), okV_nats hP hn, rep_of_nvs (x5 _ _ ha), okV_nats hP hn, .inl ⟨_, _, _, rfl, rfl, h1, hn, hP, hP, fun H6 e6 => ?_⟩⟩⟩
    have x6 := x5.trans e6
    refine ⟨_, rfl, _, rfl, ⟨_, _, _, _, rfl, rep_of_nvs (x6 _ _ hj), okV_nats jp hn, rep_of_nvs (x6 _ _ hc), okV_nats hR hn, .inl ⟨_, _, _, rfl, rfl, h1, hn, jp, hR, fun r6 H7 e7 n7 g6 => ⟨by show 6 ≤ sizeLine; decide, fun l nl => ?_⟩⟩⟩⟩
    have x7 := x6.trans e7
    have jqr := join_isP hQ hR
    have R6 : Row H7 n (.ref r6) (joinN n p (joinN n q r)) := ⟨_, rfl, by rw [join_assoc hP hQ hR] at g6; exact g6, join_isP hP jqr⟩
    rw [inn_met hR, inn_join hP hQ, inn_yes hP Le.refl]
    have y1 := Ex.new (o := .lst [.bl (inn r p && inn r q), .bl (inn p r && inn q r), .ref r3, .ref r4, .bl true, .ref r6]) nl
    have hl : (upd H7 l (.lst [.bl (inn r p && inn r q), .bl (inn p r && inn q r), .ref r3, .ref r4, .bl true, .ref r6])) l = _ := upd_same
    have R3 := R3.mono (e5.trans (e6.trans (e7.trans y1)))
    have R4 := R4.mono (e6.trans (e7.trans y1))
    have R6 := R6.mono y1
    have x8 := x7.trans y1
    generalize upd H7 l (.lst [.bl (inn r p && inn r q), .bl (inn p r && inn q r), .ref r3, .ref r4, .bl true, .ref r6]) = H8 at x8 R3 R4 R6 hl ⊢
    clear y1 x7 x6 x5 x4 x3 e2 e3 e4 e5 e6 e7 g3 g4 g6 n4 n5 n7 nl
    dsimp only [gName, tSeq, tAsg, tLst, tCons]
    refine andV_go (b := inn r p) (c := inn r q) (fun Q h => ⟨_, rfl, _, rfl, n, c, a, r, p, rfl, hn, st_of (x8 _ _ hc), hR, st_of (x8 _ _ ha), hP, h⟩) (fun H1 Q e h => ⟨_, rfl, _, rfl, n, c, b, r, q, rfl, hn, st_of ((x8.trans e) _ _ hc), hR, st_of ((x8.trans e) _ _ hb), hQ, h⟩) fun H9 e9 => ?_
    have x9 := x8.trans e9
    refine andV_go (b := inn p r) (c := inn q r) (fun Q h => ⟨_, rfl, _, rfl, n, a, c, p, r, rfl, hn, st_of (x9 _ _ ha), hP, st_of (x9 _ _ hc), hR, h⟩) (fun H1 Q e h => ⟨_, rfl, _, rfl, n, b, c, q, r, rfl, hn, st_of ((x9.trans e) _ _ hb), hQ, st_of ((x9.trans e) _ _ hc), hR, h⟩) fun H10 e10 => ?_
    have x10 := x9.trans e10
    refine ⟨_, rfl, _, rfl, _, rfl, _, rfl, _, rfl, ⟨_, _, _, _, rfl, rep_of_nvs (x10 _ _ hb), okV_nats hQ hn, rep_of_nvs (x10 _ _ hc), okV_nats hR hn, .inl ⟨_, _, _, rfl, rfl, h1, hn, hQ, hR, fun r7 H12 e12 n12 g7 => ?_⟩⟩⟩
    have x12 := x10.trans e12
    refine ⟨_, _, _, _, rfl, rep_of_nvs (x12 _ _ ha), okV_nats hP hn, rep_of_nvs g7, okV_nats jqr hn, .inl ⟨_, _, _, rfl, rfl, h1, hn, hP, jqr, fun r8 H13 e13 n13 g8 => ⟨by show 6 ≤ sizeLine; decide, fun l2 nl2 => ?_⟩⟩⟩
    have y2 := Ex.new (o := .lst [.bl (inn r p && inn r q), .bl (inn p r && inn q r), .ref a, .ref b, .bl true, .ref r8]) nl2
    have y := e9.trans (e10.trans (e12.trans (e13.trans y2)))
    have x13 := x12.trans (e13.trans y2)
    refine ⟨_, rfl, _, rfl, _, _, rfl, Sms.lst (.cons (.bl rfl) (.cons (.bl rfl) (.cons ((R3.mono y).sm ⟨_, rfl, x13 _ _ ha, hP⟩ hn) (.cons ((R4.mono y).sm ⟨_, rfl, x13 _ _ hb, hQ⟩ hn) (.cons (.bl rfl) (.cons ((R6.mono y).sm ⟨_, rfl, y2 _ _ g8, join_isP hP jqr⟩ hn) .nil)))))) (y _ _ hl) upd_same (by show 6 ≤ 90000; decide), fun H14 e14 => ⟨_, rfl, iteT ?_⟩⟩
    have x14 := x13.trans e14
    have mqr := met_isP (n := n) (p := q) (q := r)
    refine ⟨_, rfl, _, rfl, ⟨_, _, _, _, rfl, rep_of_nvs (x14 _ _ hm), okV_nats mp hn, rep_of_nvs (x14 _ _ hc), okV_nats hR hn, .inl ⟨_, _, _, rfl, rfl, h1, hn, mp, hR, fun r9 H15 e15 n15 g9 => ?_⟩⟩⟩
    have x15 := x14.trans e15
    refine ⟨_, rfl, _, rfl, _, rfl, ⟨_, _, _, _, rfl, rep_of_nvs (x15 _ _ hb), okV_nats hQ hn, rep_of_nvs (x15 _ _ hc), okV_nats hR hn, .inl ⟨_, _, _, rfl, rfl, h1, hn, hQ, hR, fun r10 H16 e16 n16 g10 => ?_⟩⟩⟩
    have x16 := x15.trans e16
    refine ⟨_, _, _, _, rfl, rep_of_nvs (x16 _ _ ha), okV_nats hP hn, rep_of_nvs g10, okV_nats mqr hn, .inl ⟨_, _, _, rfl, rfl, h1, hn, hP, mqr, fun r11 H17 e17 n17 g11 => ?_⟩⟩
    rw [met_assoc] at g9
    exact ⟨_, _, rfl, Row.sm ⟨_, rfl, (e16.trans e17) _ _ g9, met_isP⟩ ⟨_, rfl, g11, met_isP⟩ hn, fun H18 e18 => qq H18 (x16.trans (e17.trans e18))⟩
end
end Eyes

set_option Elab.async false
set_option linter.all false
set_option maxRecDepth 100000
set_option maxHeartbeats 4000000
namespace Eyes
open PySem PySem.Spec PyProof.Rows L2 Evl TL
theorem nvs_sm {C : Addr} {H : Hp} {a b : Addr} {c : List Nat} {k : Nat} (ha : H a = some (.tup (nvs c))) (hb : H b = some (.tup (nvs c))) (hc : c.length ≤ 90000) : Sm C H (k + 2) (.ref a) (.ref b) :=
  .tup ha hb rfl (by rw [nvs_len]; exact hc) fun i u v e1 e2 => by
    rw [e1] at e2
    cases e2
    unfold nvs at e1
    rw [List.getElem?_map] at e1
    obtain ⟨y, _, rfl⟩ := Option.map_eq_some_iff.mp e1
    exact .int'
theorem Rws.mono {H H' : Hp} {us : List V} {l : List (List Nat)} (h : Rws H us l) (e : Ex H H') : Rws H' us l := ⟨h.1, fun i u hu => by
  obtain ⟨t, c, h1, h2, h3⟩ := h.2 i u hu
  exact ⟨t, c, h1, h2, e _ _ h3⟩⟩
theorem Rws.sm {C : Addr} {H : Hp} {us vs : List V} {l : List (List Nat)} {a b : Addr} {k : Nat} (h : Rws H us l) (g : Rws H vs l) (ha : H a = some (.lst us)) (hb : H b = some (.lst vs)) (hl : l.length ≤ 90000) (hc : ∀ c ∈ l, c.length ≤ 90000) : Sm C H (k + 3) (.ref a) (.ref b) :=
  .lst ha hb (h.1.trans g.1.symm) (by rw [h.1]; exact hl) fun i u v e1 e2 => by
    obtain ⟨t, c, rfl, h2, h3⟩ := h.2 i u e1
    obtain ⟨t2, c2, rfl, g2, g3⟩ := g.2 i v e2
    rw [h2] at g2
    cases g2
    exact nvs_sm h3 g3 (hc c (List.mem_of_getElem? h2))
theorem Rws.snoc {H : Hp} {us : List V} {l : List (List Nat)} {t : Addr} {c : List Nat} (h : Rws H us l) (ht : H t = some (.tup (nvs c))) : Rws H (us ++ [.ref t]) (l ++ [c]) := ⟨by rw [List.length_append, List.length_append, h.1]; rfl, fun i u hu => by
  rcases Nat.lt_or_ge i us.length with z | z
  · rw [List.getElem?_append_left z] at hu
    obtain ⟨t2, c2, h1, h2, h3⟩ := h.2 i u hu
    exact ⟨t2, c2, h1, by rw [List.getElem?_append_left (by rw [← h.1]; exact z)]; exact h2, h3⟩
  · have hz := (List.getElem?_eq_some_iff.mp hu).1
    rw [List.length_append] at hz
    have hz : i < us.length + 1 := hz
    obtain rfl : i = us.length := by omega
    rw [List.getElem?_append_right (Nat.le_refl _), Nat.sub_self] at hu
    cases hu
    exact ⟨t, c, rfl, by rw [h.1, List.getElem?_append_right (Nat.le_refl _), Nat.sub_self]; rfl, ht⟩⟩
theorem Rws.put {H : Hp} {us : List V} {l : List (List Nat)} {a : Addr} {xs ys : List V} (h : Rws H us l) (ha : H a = some (.lst xs)) : Rws (upd H a (.lst ys)) us l := ⟨h.1, fun i u hu => by
  obtain ⟨t, c, h1, h2, h3⟩ := h.2 i u hu
  exact ⟨t, c, h1, h2, by rw [upd_ne fun z => by rw [z, ha] at h3; cases h3]; exact h3⟩⟩
theorem ix_lt {n j : Nat} {z : Int} (e : z = (j : Int)) (h : j < n) : ixN n z = some j := by
  subst e
  unfold ixN
  rw [if_pos (Int.natCast_nonneg j), if_pos (by omega)]
  rfl
def spLotsSo : Sp := fun vs H Q _ => ∃ (n : Nat) (a : Addr) (p : List Nat), vs = [.ref a, .int n] ∧ H a = some (.tup (nvs p)) ∧ IsP n p ∧ 1 ≤ n ∧ n ≤ 4096 ∧ ∀ H', Ex H H' → Q (.bl true) H'
section
variable {P : Program} {w : World} {K : PySem.W.Frag} {mg : Str → Option Value} {base : Heap} {AA : Adr}
theorem ok_law_lots_so (T : Txt K mg AA) : Pr P w K mg base "_law_lots_so" s_law_lots_so p_law_lots_so 14 spLotsSo := by
  refine pr_mk T.f_law_lots_so sc_law_lots_so (fun vs H Q E h => ?_) (fun f cdv A outer s H vs Q E hr h => ?_)
  · obtain ⟨n, a, p, rfl, _⟩ := h
    rfl
  · obtain ⟨n, a, p, rfl, ha, hP, h1, hn, q⟩ := h
    refine ⟨_, (pss_cons (ps_set (i := 2) sc_law_lots_so.nd rfl (.inl rfl) (pe_lst pa_nil))
      (pss_cons (ps_for PassesOwn.never rfl (pi_range1 (by rfl) T.n_range (pa_cons (pv 1) pa_nil)) (pg_name (i := 3) sc_law_lots_so.nd rfl (.inl rfl))
      (pss_one (ps_if (pt_cmpR op_eq (pe_ix (ix_tupK (K := K) rfl) (pv 0) (pv 3) (fun _ _ => rfl)) (pe_op op_add (pv 3) pe_int) (nomark _))
      (pss_one (ps_expr (pe_bm PySem.F.plainAttrs_list PySem.F.slot_list_append PySem.F.type_list_append mt_append (pv 2) (pa_cons (pcall (ok_law_group T) hr (pa_cons (pv 0) (pa_cons (pe_op op_add (pv 3) pe_int) pa_nil))) pa_nil))))
      pss_nil)))
      (pss_cons (ps_set (i := 4) sc_law_lots_so.nd rfl (.inl rfl) (pcall (ok_lots_of T) hr (pa_cons (pv 0) pa_nil)))
      (pss_cons (ps_if (pt_not (pt_val (pcall (ok_law_sm T 12) hr (pa_cons (pv 4) (pa_cons (pv 2) pa_nil)))))
      (pss_one (ps_ret pe_bl))
      pss_nil)
      (pss_cons (ps_expr (pe_bm PySem.F.plainAttrs_list PySem.F.slot_list_append PySem.F.type_list_append mt_append (pv 4) (pa_cons pe_str pa_nil)))
      (pss_cons (ps_asg (pe_tup pa_nil) (pg_sub (pv 4) pe_int set_list))
      (pss_one (ps_ret (pe_and (pcall (ok_law_sm T 12) hr (pa_cons (pcallN0 (ok_lots_of T) kw_lots_of_0_parting hr (pk_cons (pv 0) pk_nil)) (pa_cons (pv 2) pa_nil))) (pe_one (pcall (ok_law_sm T 12) hr (pa_cons (pe_lst (pa_cons (pe_callB (call_len_seqK (K := K) rfl) (by rfl) T.n_len PySem.boot_len (pa_cons (pv 4) pa_nil)) (pa_cons (pe_ix (ix_listK (K := K) rfl) (pv 4) pe_int (fun _ _ => rfl)) pa_nil))) (pa_cons (pe_lst (pa_cons (pe_op op_add (pe_callB (call_len_seqK (K := K) rfl) (by rfl) T.n_len PySem.boot_len (pa_cons (pv 2) pa_nil)) pe_int) (pa_cons (pe_tup pa_nil) pa_nil))) pa_nil))))))))))))), ?_⟩
    refine ⟨by show 0 ≤ sizeLine; decide, fun F nF => ?_⟩
    refine ⟨_, rfl, _, rfl, by omega, by omega, ?_⟩
    rw [show ((n : Nat) : Int).toNat = n by omega]
    refine for_it walk_range (fun i σ H' => ∃ (y3 : Option V) (us : List V), σ = [some (.ref a), some (.int n), some (.ref F), y3, none] ∧ Ex H H' ∧ H' F = some (.lst us) ∧ Rws H' us ((rootsN p i).map (cellN p n))) ⟨none, [], rfl, Ex.new nF, upd_same, rfl, fun i u hu => by cases hu⟩ (fun _ _ _ _ _ => trivial) (fun i v σ H3 H4 hi hp hy => ?_) (fun σ H' hp => ?_)
    · obtain ⟨y3, us, rfl, e3, h3, hR⟩ := hp
      obtain ⟨rfl, rfl⟩ := hy
      have z0 : (0 : Int) + (i : Int) = (i : Int) := Int.zero_add _
      have z1 : (0 : Int) + (i : Int) + 1 = ((i + 1 : Nat) : Int) := by omega
      have g1 : atI (nvs p) (0 + (i : Int)) = some (.int (itm p (i + 1) : Nat)) := by
        rw [z0]
        exact atI_nat (nvs_get (itm_get (x := i + 1) (by omega) (by rw [hP.len]; omega)))
      have ll : us.length ≤ 4097 := by
        rw [hR.1, List.length_map]
        have := roots_len (p := p) (i := i)
        omega
      refine ⟨_, rfl, _, rfl, a, _, _, _, rfl, rfl, st_of (e3 _ _ ha), g1, _, rfl, _, 1, rfl, rfl, rfl, _, rfl, ite2 (fun hd => ?_) (fun hd => ?_)⟩
      · have g : itm p (i + 1) = i + 1 := by
          have hd : V.int (itm p (i + 1) : Nat) = V.int (0 + (i : Int) + 1) := of_decide_eq_true hd
          injection hd with hd
          omega
        refine ⟨_, rfl, .inl ⟨rfl, us, sq_of h3⟩, _, rfl, _, rfl, _, 1, rfl, rfl, n, i + 1, a, p, by
          show [V.ref a, V.int (0 + (i : Int) + 1)] = _
          rw [z1], st_of (e3 _ _ ha), hP, hn, by omega, by omega, fun r H5 e5 nr hr5 => ⟨F, us, .ref r, rfl, rfl, e5 _ _ h3, sz_of (by omega), _, us ++ [.ref r], rfl, (e3.trans e5).mut nF, upd_same, ?_⟩⟩
        rw [roots_more g, List.map_append]
        rw [g] at hr5
        exact ((hR.mono e5).snoc hr5).put (e5 _ _ h3)
      · have g : itm p (i + 1) ≠ i + 1 := fun g => hd (by
          show decide (V.int (itm p (i + 1) : Nat) = V.int (0 + (i : Int) + 1)) = true
          rw [z1, g]
          exact decide_eq_true rfl)
        refine ⟨_, us, rfl, e3, h3, ?_⟩
        rw [roots_same g]
        exact hR
    · obtain ⟨y3, us, rfl, e3, h3, hR⟩ := hp
      have hR : Rws H' us (lotsN p n) := hR
      have l1 : (lotsN p n).length ≤ 4096 := by
        unfold lotsN
        rw [List.length_map]
        exact Nat.le_trans roots_len hn
      have l2 : ∀ c ∈ lotsN p n, c.length ≤ 90000 := fun c hc => by
        obtain ⟨x, _, rfl⟩ := List.mem_map.mp hc
        have := cell_len (p := p) (i := n) (r := x)
        omega
      have l3 : us.length ≤ 4096 := by rw [hR.1]; exact l1
      have l0 : 0 < us.length := by
        rw [hR.1]
        unfold lotsN
        rw [List.length_map]
        have : 1 ∈ rootsN p n := roots_mem.mpr ⟨⟨Nat.le_refl _, h1⟩, by have := hP.lo 1 (Nat.le_refl _) h1; omega⟩
        exact List.length_pos_of_mem this
      refine ⟨_, rfl, n, a, p, rfl, st_of (e3 _ _ ha), hP, hn, fun r vs H4 e4 nr hr4 hR4 => ?_⟩
      have l4 : vs.length = us.length := hR4.1.trans hR.1.symm
      refine ⟨_, rfl, _, rfl, _, _, rfl, hR4.sm (hR.mono e4) hr4 (e4 _ _ h3) (by omega) l2, fun H5 e5 => ⟨_, rfl, iteF ?_⟩⟩
      have hr5 := e5 _ _ hr4
      have e45 := e4.trans e5
      refine ⟨_, rfl, .inl ⟨rfl, vs, sq_of hr5⟩, r, vs, .str "x", rfl, rfl, hr5, sz_of (by omega), ?_⟩
      have e6 : Ex H' (upd H5 r (.lst (vs ++ [V.str "x"]))) := e45.mut nr
      have hr6 : (upd H5 r (.lst (vs ++ [V.str "x"]))) r = _ := upd_same
      generalize upd H5 r (.lst (vs ++ [V.str "x"])) = H6 at e6 hr6 ⊢
      refine ⟨by show 0 ≤ sizeLine; decide, fun t nt => ?_⟩
      have e7 := e6.trans (Ex.new (o := .tup []) nt)
      have hr7 := Ex.new (o := .tup []) nt _ _ hr6
      refine ⟨_, rfl, r, vs ++ [V.str "x"], 0, 0, rfl, rfl, hr7, ix_lt (j := 0) rfl (by rw [List.length_append]; show 0 < vs.length + 1; omega), ?_⟩
      have e8 : Ex H' (upd (upd H6 t (.tup [])) r (.lst ((vs ++ [V.str "x"]).set 0 (.ref t)))) := e7.mut nr
      have hr8 : (upd (upd H6 t (.tup [])) r (.lst ((vs ++ [V.str "x"]).set 0 (.ref t)))) r = _ := upd_same
      have ht8 : (upd (upd H6 t (.tup [])) r (.lst ((vs ++ [V.str "x"]).set 0 (.ref t)))) t = some (.tup []) := by
        rw [upd_ne fun z => by rw [z, hr6] at nt; cases nt]
        exact upd_same
      generalize upd (upd H6 t (.tup [])) r (.lst ((vs ++ [V.str "x"]).set 0 (.ref t))) = H8 at e8 hr8 ht8 ⊢
      have ls : ((vs ++ [V.str "x"]).set 0 (.ref t)).length = us.length + 1 := by
        rw [List.length_set, List.length_append, l4]
        rfl
      have gs : ((vs ++ [V.str "x"]).set 0 (.ref t))[0]? = some (.ref t) := by
        rw [List.getElem?_set_self]
        rw [List.length_append]
        show 0 < vs.length + 1
        omega
      generalize (vs ++ [V.str "x"]).set 0 (.ref t) = ws at hr8 ls gs ⊢
      refine ⟨_, rfl, rfl, rfl, n, a, p, rfl, st_of (e8 _ _ (e3 _ _ ha)), hP, hn, fun r2 vs2 H9 e9 nr2 hr9 hR9 => ?_⟩
      have e89 := e8.trans e9
      refine ⟨_, rfl, _, _, rfl, hR9.sm (hR.mono e89) hr9 (e89 _ _ h3) (by omega) l2, fun H10 e10 => ⟨_, rfl, iteT ?_⟩⟩
      have e9a := e9.trans e10
      have hrA := e9a _ _ hr8
      refine ⟨_, rfl, r, ws, rfl, .inl (sq_of hrA), _, rfl, r, ws, 0, .ref t, rfl, rfl, sq_of hrA, at_of (j := 0) rfl gs, by show 2 ≤ sizeLine; decide, fun u nu => ?_⟩
      have eu := Ex.new (o := .lst [.int ws.length, .ref t]) nu
      refine ⟨_, rfl, F, us, rfl, .inl (sq_of (eu _ _ (e9a _ _ (e8 _ _ h3)))), us.length, 1, rfl, rfl, by show 0 ≤ sizeLine; decide, fun t2 nt2 => ⟨by show 2 ≤ sizeLine; decide, fun u2 nu2 => ?_⟩⟩
      have et := Ex.new (o := .tup []) nt2
      have eu2 := Ex.new (o := .lst [.int (us.length + 1), .ref t2]) nu2
      refine ⟨_, _, rfl, Sms.lst (.cons ?_ (.cons (Sms.tup .nil ((eu.trans (et.trans eu2)) _ _ (e9a _ _ ht8)) (eu2 _ _ upd_same) (by show 0 ≤ 90000; decide)) .nil)) ((et.trans eu2) _ _ upd_same) upd_same (by show 2 ≤ 90000; decide), fun H11 e11 => ?_⟩
      · rw [show ((ws.length : Nat) : Int) = (us.length : Int) + 1 by omega]
        exact .int'
      · exact q H11 (e3.trans (e8.trans (e9a.trans (eu.trans (et.trans (eu2.trans e11))))))
end
end Eyes

set_option Elab.async false
set_option linter.all false
set_option maxRecDepth 100000
set_option maxHeartbeats 4000000
namespace Eyes
open PySem PySem.Spec PyProof.Rows L2 Evl TL
theorem widAll_of {k : Nat} : ∀ {ds : List PyData}, (∀ d ∈ ds, wid d ≤ k) → widAll ds ≤ k
  | [], _ => Nat.zero_le _
  | d :: ds, h => by
    show max (wid d) (widAll ds) ≤ k
    have a := h d List.mem_cons_self
    have b := widAll_of fun e he => h e (List.mem_cons_of_mem _ he)
    omega
theorem okV_tup {ds : List PyData} (h : ∀ d ∈ ds, d.depth ≤ 3 ∧ wid d ≤ 4096 ∧ PyData.canLay0 d = true) (hl : ds.length ≤ 4096) : okV (.tuple ds) := by
  have a : PyData.depthAll ds ≤ 3 := depthAll_of fun d hd => (h d hd).1
  have b : widAll ds ≤ 4096 := widAll_of fun d hd => (h d hd).2.1
  refine ⟨by simp only [PyData.depth]; omega, by simp only [wid]; omega, ?_⟩
  show PyData.canLayAll0 ds = true
  exact layAll_of fun d hd => (h d hd).2.2
theorem okV_lst {ds : List PyData} (h : ∀ d ∈ ds, d.depth ≤ 3 ∧ wid d ≤ 4096 ∧ PyData.canLay0 d = true) (hl : ds.length ≤ 4096) : okV (.list ds) := by
  have a : PyData.depthAll ds ≤ 3 := depthAll_of fun d hd => (h d hd).1
  have b : widAll ds ≤ 4096 := widAll_of fun d hd => (h d hd).2.1
  refine ⟨by simp only [PyData.depth]; omega, by simp only [wid]; omega, ?_⟩
  show PyData.canLayAll0 ds = true
  exact layAll_of fun d hd => (h d hd).2.2
theorem small_nat (x : Nat) : (PyData.int (x : Int)).depth ≤ 3 ∧ wid (PyData.int (x : Int)) ≤ 4096 ∧ PyData.canLay0 (PyData.int (x : Int)) = true := ⟨Nat.zero_le _, Nat.zero_le _, rfl⟩
theorem small_ndats {p : List Nat} {d : PyData} (h : d ∈ ndats p) : d.depth ≤ 3 ∧ wid d ≤ 4096 ∧ PyData.canLay0 d = true := by
  obtain ⟨x, _, rfl⟩ := List.mem_map.mp h
  exact small_nat x
def small (d : PyData) : Prop := d.depth ≤ 3 ∧ wid d ≤ 4096 ∧ PyData.canLay0 d = true
def Sml (G : Hp) (xs : List V) : Prop := ∃ ds, Reps G xs ds ∧ ∀ d ∈ ds, small d
theorem Reps.app {G : Hp} : ∀ {xs ys : List V} {ds es : List PyData}, Reps G xs ds → Reps G ys es → Reps G (xs ++ ys) (ds ++ es)
  | _, _, _, _, .nil, h => h
  | _, _, _, _, .cons h r, g => .cons h (Reps.app r g)
theorem Sml.mono {G G' : Hp} {xs : List V} (h : Sml G xs) (e : Ex G G') : Sml G' xs := by
  obtain ⟨ds, h1, h2⟩ := h
  exact ⟨ds, Reps.mono e h1, h2⟩
theorem Sml.app {G : Hp} {xs ys : List V} (h : Sml G xs) (g : Sml G ys) : Sml G (xs ++ ys) := by
  obtain ⟨ds, h1, h2⟩ := h
  obtain ⟨es, g1, g2⟩ := g
  exact ⟨ds ++ es, Reps.app h1 g1, fun d hd => (List.mem_append.mp hd).elim (h2 d) (g2 d)⟩
theorem Sml.one {G : Hp} {v : V} {d : PyData} (h : Rep G v d) (hs : small d) : Sml G [v] := ⟨[d], .cons h .nil, fun e he => by
  rw [List.mem_singleton.mp he]
  exact hs⟩
theorem Sml.row {G : Hp} {p : List Nat} : Sml G (nvs p) := ⟨ndats p, reps_ndats p, fun d hd => small_ndats hd⟩
theorem cut_nvs {p : List Nat} {lo hi : Option Int} : ∃ q, cutV (nvs p) lo hi = nvs q ∧ q.length ≤ p.length := by
  refine ⟨(p.drop (HT.sIx (nvs p).length 0 lo)).take (HT.sIx (nvs p).length (nvs p).length hi - HT.sIx (nvs p).length 0 lo), ?_, ?_⟩
  · unfold cutV
    unfold nvs
    rw [List.map_take, List.map_drop]
  · rw [List.length_take, List.length_drop]
    omega
theorem Sml.cut {G : Hp} {p : List Nat} {lo hi : Option Int} : Sml G (cutV (nvs p) lo hi) := by
  obtain ⟨q, h, _⟩ := cut_nvs (p := p) (lo := lo) (hi := hi)
  rw [h]
  exact .row
theorem Sml.rep {G : Hp} {xs : List V} {a : Addr} (h : Sml G xs) (ha : G a = some (.tup xs)) (hl : xs.length ≤ 4096) : ∃ d, Rep G (.ref a) d ∧ okV d := by
  obtain ⟨ds, h1, h2⟩ := h
  exact ⟨.tuple ds, .tup ha h1, okV_tup h2 (by rw [← h1.length]; exact hl)⟩
theorem cat_go {K : PySem.W.Frag} {b a c : Addr} {xs ys : List V} {G H : Hp} {Q : VK} (hA : At b G H) (ha : G a = some (.tup xs)) (hc : G c = some (.tup ys)) (sx : Sml G xs) (sy : Sml G ys) (hl : xs.length + ys.length ≤ 4096) (h : ∀ d zs G' H', Ex G G' → At b G' H' → G' d = some (.tup zs) → Sml G' zs → zs.length ≤ xs.length + ys.length → Q (.ref d) H') : rCatA K (.ref a) (.ref c) H Q :=
  ⟨a, c, xs, ys, rfl, rfl, st_of (hA.ex _ _ ha), st_of (hA.ex _ _ hc), sz_of (by omega), fun _ => h c ys G H (Ex.refl _) hA hc sy (by omega), fun _ _ => h a xs G H (Ex.refl _) hA ha sx (by omega), fun _ _ r nr => h r _ _ _ (Ex.new (hA.nh nr)) (hA.new nr) upd_same ((sx.app sy).mono (Ex.new (hA.nh nr))) (by rw [List.length_append]; exact Nat.le_refl _)⟩
def spOddD : Sp := fun vs H Q _ => ∃ (b lm : Addr) (G : Hp) (ms : List V), vs = [.ref b, .ref lm] ∧ At b G H ∧ G lm = some (.lst ms) ∧ ms.length ≤ 20 ∧ (∀ x ∈ ms, ∃ d, Rep G x d ∧ okV d) ∧ ∀ v d G' H', Ex G G' → At b G' H' → Rep G' v d → okV d → Q v H'
def spNear : Sp := fun vs H Q _ => ∃ (b a : Addr) (n : Nat) (p : List Nat) (G : Hp), vs = [.ref b, .ref a] ∧ At b G H ∧ G a = some (.tup (nvs p)) ∧ IsP n p ∧ 1 ≤ n ∧ n ≤ 60 ∧ ∀ v d G' H', Ex G G' → At b G' H' → Rep G' v d → okV d → Q v H'
section
variable {P : Program} {w : World} {K : PySem.W.Frag} {mg : Str → Option Value} {base : Heap} {AA : Adr}
theorem ok_law_odd (T : Txt K mg AA) : Pr P w K mg base "_law_odd" s_law_odd p_law_odd 3 spOddD := by
  refine pr_mk T.f_law_odd sc_law_odd (fun vs H Q E h => ?_) (fun f cdv A outer s H vs Q E hr h => ?_)
  · obtain ⟨b, lm, G, ms, rfl, _⟩ := h
    rfl
  · obtain ⟨b, lm, G, ms, rfl, hA, hm, h20, hms, q⟩ := h
    refine ⟨_, (pss_one (ps_ret (pcall (ok_law_of T) hr (pa_cons (pv 0) (pa_cons (pe_op op_cat (pe_lst (pa_cons pe_non (pa_cons pe_bl (pa_cons pe_bl (pa_cons pe_int (pa_cons (pe_un un_neg pe_int) (pa_cons pe_str (pa_cons pe_str (pa_cons pe_str (pa_cons (pe_lst pa_nil) (pa_cons (pe_tup pa_nil) (pa_cons (pe_lst (pa_cons pe_non pa_nil)) (pa_cons (pe_tup (pa_cons pe_str pa_nil)) (pa_cons (pe_tup (pa_cons pe_str (pa_cons pe_int (pa_cons pe_int pa_nil)))) (pa_cons pe_int (pa_cons pe_str (pa_cons (pe_lst (pa_cons pe_int pa_nil)) (pa_cons (pe_tup (pa_cons pe_int (pa_cons pe_int pa_nil))) pa_nil)))))))))))))))))) (pv 1)) pa_nil))))), ?_⟩
    refine ⟨_, rfl, 1, rfl, by show 0 ≤ sizeLine; decide, fun p1 n1 => ⟨by show 0 ≤ sizeLine; decide, fun p2 n2 => ⟨by show 1 ≤ sizeLine; decide, fun p3 n3 => ⟨by show 1 ≤ sizeLine; decide, fun p4 n4 => ⟨by show 3 ≤ sizeLine; decide, fun p5 n5 => ⟨by show 1 ≤ sizeLine; decide, fun p6 n6 => ⟨by show 2 ≤ sizeLine; decide, fun p7 n7 => ⟨by show 17 ≤ sizeLine; decide, fun p8 n8 => ?_⟩⟩⟩⟩⟩⟩⟩⟩
    have a1 := hA.new (o := .lst []) n1
    have x1 := Ex.new (o := .lst []) (hA.nh n1)
    have a2 := a1.new (o := .tup []) n2
    have x2 := Ex.new (o := .tup []) (a1.nh n2)
    have a3 := a2.new (o := .lst [.non]) n3
    have x3 := Ex.new (o := .lst [.non]) (a2.nh n3)
    have a4 := a3.new (o := .tup [.str "x"]) n4
    have x4 := Ex.new (o := .tup [.str "x"]) (a3.nh n4)
    have a5 := a4.new (o := .tup [.str "x", .int 1, .int 2]) n5
    have x5 := Ex.new (o := .tup [.str "x", .int 1, .int 2]) (a4.nh n5)
    have a6 := a5.new (o := .lst [.int 1]) n6
    have x6 := Ex.new (o := .lst [.int 1]) (a5.nh n6)
    have a7 := a6.new (o := .tup [.int 1, .int 2]) n7
    have x7 := Ex.new (o := .tup [.int 1, .int 2]) (a6.nh n7)
    have a8 := a7.new (o := .lst [.non, .bl true, .bl false, .int 7, .int (-1), .str "", .str "x", .str "A", .ref p1, .ref p2, .ref p3, .ref p4, .ref p5, .int 999999999, .str "x y", .ref p6, .ref p7]) n8
    have x8 := Ex.new (o := .lst [.non, .bl true, .bl false, .int 7, .int (-1), .str "", .str "x", .str "A", .ref p1, .ref p2, .ref p3, .ref p4, .ref p5, .int 999999999, .str "x y", .ref p6, .ref p7]) (a7.nh n8)
    have hm8 := a8.ex _ _ (x8 _ _ (x7 _ _ (x6 _ _ (x5 _ _ (x4 _ _ (x3 _ _ (x2 _ _ (x1 _ _ hm))))))))
    refine ⟨_, rfl, p8, lm, _, ms, rfl, rfl, upd_same, hm8, sz_of (by show 17 + ms.length ≤ 100000; omega), fun pr npr => ⟨b, .ref pr, _, _, rfl, a8.new npr, .inl ⟨pr, rfl, sq_of upd_same⟩, by rw [List.length_append]; show 0 < 17 + ms.length; omega, by rw [List.length_append]; show 17 + ms.length < 1073741824; omega, fun v H' hv hA' => ?_⟩⟩
    have x9 := Ex.new (o := HO.lst ([.non, .bl true, .bl false, .int 7, .int (-1), .str "", .str "x", .str "A", .ref p1, .ref p2, .ref p3, .ref p4, .ref p5, .int 999999999, .str "x y", .ref p6, .ref p7] ++ ms)) (a8.nh npr)
    have y8 := x8.trans x9
    have y7 := x7.trans y8
    have y6 := x6.trans y7
    have y5 := x5.trans y6
    have y4 := x4.trans y5
    have y3 := x3.trans y4
    have y2 := x2.trans y3
    have y1 := x1.trans y2
    refine (fun main : ∃ d, Rep _ v d ∧ okV d => by
      obtain ⟨d, hd, ho⟩ := main
      exact q v d _ H' y1 hA' hd ho) ?_
    rcases List.mem_append.mp hv with hv | hv
    · simp only [List.mem_cons, List.not_mem_nil, or_false] at hv
      rcases hv with rfl | rfl | rfl | rfl | rfl | rfl | rfl | rfl | rfl | rfl | rfl | rfl | rfl | rfl | rfl | rfl | rfl
      · exact ⟨_, .non, by decide +kernel, by decide +kernel, by decide +kernel⟩
      · exact ⟨_, .bl true, by decide +kernel, by decide +kernel, by decide +kernel⟩
      · exact ⟨_, .bl false, by decide +kernel, by decide +kernel, by decide +kernel⟩
      · exact ⟨_, .int 7, by decide +kernel, by decide +kernel, by decide +kernel⟩
      · exact ⟨_, .int (-1), by decide +kernel, by decide +kernel, by decide +kernel⟩
      · exact ⟨_, .str _, by decide +kernel, by decide +kernel, by decide +kernel⟩
      · exact ⟨_, .str _, by decide +kernel, by decide +kernel, by decide +kernel⟩
      · exact ⟨_, .str _, by decide +kernel, by decide +kernel, by decide +kernel⟩
      · exact ⟨_, .lst (y2 _ _ upd_same) .nil, by decide +kernel, by decide +kernel, by decide +kernel⟩
      · exact ⟨_, .tup (y3 _ _ upd_same) .nil, by decide +kernel, by decide +kernel, by decide +kernel⟩
      · exact ⟨_, .lst (y4 _ _ upd_same) (.cons .non .nil), by decide +kernel, by decide +kernel, by decide +kernel⟩
      · exact ⟨_, .tup (y5 _ _ upd_same) (.cons (.str _) .nil), by decide +kernel, by decide +kernel, by decide +kernel⟩
      · exact ⟨_, .tup (y6 _ _ upd_same) (.cons (.str _) (.cons (.int _) (.cons (.int _) .nil))), by decide +kernel, by decide +kernel, by decide +kernel⟩
      · exact ⟨_, .int _, by decide +kernel, by decide +kernel, by decide +kernel⟩
      · exact ⟨_, .str _, by decide +kernel, by decide +kernel, by decide +kernel⟩
      · exact ⟨_, .lst (y7 _ _ upd_same) (.cons (.int _) .nil), by decide +kernel, by decide +kernel, by decide +kernel⟩
      · exact ⟨_, .tup (y8 _ _ upd_same) (.cons (.int _) (.cons (.int _) .nil)), by decide +kernel, by decide +kernel, by decide +kernel⟩
    · obtain ⟨d, hd, ho⟩ := hms v hv
      exact ⟨d, hd.mono y1, ho⟩
theorem ok_law_near_rows (T : Txt K mg AA) : Pr P w K mg base "_law_near_rows" s_law_near_rows p_law_near_rows 4 spNear := by
  refine pr_mk T.f_law_near_rows sc_law_near_rows (fun vs H Q E h => ?_) (fun f cdv A outer s H vs Q E hr h => ?_)
  · obtain ⟨b, a, n, p, G, rfl, _⟩ := h
    rfl
  · obtain ⟨b, a, n, p, G, rfl, hA, ha, hP, h1, hn, q⟩ := h
    refine ⟨_, (pss_cons (ps_par (i := 2) (j := 3) rfl sc_law_near_rows.nd rfl rfl (by decide) rfl rfl (pa_cons (pcall (ok_law_draw T) hr (pa_cons (pv 0) (pa_cons (pe_callB (call_len_seqK (K := K) rfl) (by rfl) T.n_len PySem.boot_len (pa_cons (pv 1) pa_nil)) pa_nil))) (pa_cons (pcall (ok_law_draw T) hr (pa_cons (pv 0) (pa_cons pe_int pa_nil))) pa_nil)) rfl)
      (pss_cons (ps_if (pt_cmpR op_lt (pv 3) pe_int (nomark _))
      (pss_cons (ps_set (i := 4) sc_law_near_rows.nd rfl (.inl rfl) (pe_ix (ix_listK (K := K) rfl) (pe_lst (pa_cons (pcall (ok_law_draw T) hr (pa_cons (pv 0) (pa_cons (pe_op op_add (pe_callB (call_len_seqK (K := K) rfl) (by rfl) T.n_len PySem.boot_len (pa_cons (pv 1) pa_nil)) pe_int) pa_nil))) (pa_cons (pe_op op_sub (pe_ix (ix_tupK (K := K) rfl) (pv 1) (pv 2) (fun _ _ => rfl)) pe_int) (pa_cons (pe_op op_add (pv 2) pe_int) (pa_cons (pcall (ok_law_of T) hr (pa_cons (pv 0) (pa_cons (pe_lst (pa_cons pe_bl (pa_cons pe_non (pa_cons pe_str (pa_cons (pe_tup (pa_cons pe_int pa_nil)) (pa_cons (pe_un un_neg pe_int) (pa_cons pe_int pa_nil))))))) pa_nil))) pa_nil))))) (pv 3) (fun _ _ => rfl)))
      (pss_one (ps_ret (pe_op op_catA (pe_op op_catA (pe_slice sl_tup (pv 1) po_none (po_some (pv 2))) (pe_tup (pa_cons (pv 4) pa_nil))) (pe_slice sl_tup (pv 1) (po_some (pe_op op_add (pv 2) pe_int)) po_none)))))
      pss_nil)
      (pss_cons (ps_if (pt_cmpR op_eq (pv 3) pe_int (nomark _))
      (pss_one (ps_ret (pe_op op_catA (pe_slice sl_tup (pv 1) po_none (po_some (pv 2))) (pe_slice sl_tup (pv 1) (po_some (pe_op op_add (pv 2) pe_int)) po_none))))
      pss_nil)
      (pss_cons (ps_if (pt_cmpR op_eq (pv 3) pe_int (nomark _))
      (pss_one (ps_ret (pe_op op_catA (pe_op op_catA (pe_slice sl_tup (pv 1) po_none (po_some (pv 2))) (pe_tup (pa_cons (pe_op op_add (pv 2) pe_int) pa_nil))) (pe_slice sl_tupA (pv 1) (po_some (pv 2)) po_none))))
      pss_nil)
      (pss_cons (ps_if (pt_cmpR op_eq (pv 3) pe_int (nomark _))
      (pss_one (ps_ret (pe_callTy call_list_of (by rfl) T.n_list PyProof.Rows.boot_list (pa_cons (pv 1) pa_nil))))
      pss_nil)
      (pss_one (ps_ret (pcall (ok_law_odd T) hr (pa_cons (pv 0) (pa_cons (pe_lst (pa_cons (pe_tup (pa_cons (pv 1) pa_nil)) (pa_cons (pe_tup (pa_cons pe_int (pa_cons pe_int (pa_cons pe_int pa_nil)))) (pa_cons (pe_tup (pa_cons pe_int (pa_cons pe_int (pa_cons pe_int pa_nil)))) (pa_cons (pe_tup (pa_cons pe_int (pa_cons pe_int pa_nil))) (pa_cons (pe_tup (pa_cons pe_int (pa_cons pe_int (pa_cons pe_int pa_nil)))) (pa_cons (pe_tup (pa_cons pe_int (pa_cons pe_int (pa_cons pe_int pa_nil)))) (pa_cons (pe_tup (pa_cons pe_bl pa_nil)) (pa_cons (pe_tup (pa_cons pe_int (pa_cons pe_bl pa_nil))) (pa_cons (pe_tup (pa_cons pe_int (pa_cons pe_int (pa_cons pe_int (pa_cons pe_int pa_nil))))) (pa_cons (pe_tup (pa_cons pe_int pa_nil)) (pa_cons (pe_tup (pa_cons pe_int (pa_cons pe_int (pa_cons pe_int pa_nil)))) pa_nil)))))))))))) pa_nil)))))))))), ?_⟩
    have hlen : (nvs p).length = n := by rw [nvs_len, hP.len]
    have out : ∀ d zs G' H', Ex G G' → At b G' H' → G' d = some (.tup zs) → Sml G' zs → zs.length ≤ 4096 → Q (.ref d) H' := fun d zs G' H' e hA' hd hs hl => by
      obtain ⟨dd, h1, h2⟩ := hs.rep hd hl
      exact q _ dd G' H' e hA' h1 h2
    have cl : ∀ lo hi, (cutV (nvs p) lo hi).length ≤ n := fun lo hi => by
      have := cutV_length (nvs p) lo hi
      omega
    refine ⟨_, rfl, _, rfl, a, nvs p, rfl, .inr (st_of (hA.ex _ _ ha)), b, _, G, rfl, hA, by omega, by omega, fun d H1 d0 d1 hA1 => ⟨_, rfl, b, 9, G, rfl, hA1, by decide, by decide, fun t H2 t0 t1 hA2 => ⟨_, _, rfl, ?_⟩⟩⟩
    obtain ⟨k, rfl⟩ : ∃ k : Nat, d = (k : Int) := ⟨d.toNat, by omega⟩
    obtain ⟨u, rfl⟩ : ∃ u : Nat, t = (u : Int) := ⟨t.toNat, by omega⟩
    have hk : k < n := by omega
    have nlo : ¬ (HT.sIx (nvs p).length 0 none = 0 ∧ HT.sIx (nvs p).length (nvs p).length (some (k : Int)) = (nvs p).length) := by
      rw [HT.sIx_nat]
      omega
    have nhi : ¬ (HT.sIx (nvs p).length 0 (some ((k : Int) + 1)) = 0 ∧ HT.sIx (nvs p).length (nvs p).length none = (nvs p).length) := by
      rw [show ((k : Int) + 1) = ((k + 1 : Nat) : Int) by omega, HT.sIx_nat]
      omega
    have gk : atI (nvs p) (k : Int) = some (.int (itm p (k + 1) : Nat)) := atI_nat (nvs_get (itm_get (x := k + 1) (by omega) (by rw [hP.len]; omega)))
    refine ⟨_, rfl, _, 4, rfl, rfl, _, rfl, ite2 (fun h => ?_) (fun h => ?_)⟩
    · have h : (u : Int) < 4 := of_decide_eq_true h
      refine ⟨_, rfl, _, rfl, a, nvs p, rfl, .inr (st_of (hA2.ex _ _ ha)), _, 2, rfl, rfl, b, _, G, rfl, hA2, by omega, by omega, fun w1 H3 w10 w11 hA3 => ?_⟩
      refine ⟨_, rfl, _, rfl, a, _, _, _, rfl, rfl, st_of (hA3.ex _ _ ha), gk, _, 1, rfl, rfl, _, rfl, _, 1, rfl, rfl, _, rfl, by show 1 ≤ sizeLine; decide, fun t1 nt1 => ⟨1, rfl, by show 6 ≤ sizeLine; decide, fun pl npl => ?_⟩⟩
      have a4 := hA3.new (o := .tup [.int 1]) nt1
      have x4 := Ex.new (o := .tup [.int 1]) (hA3.nh nt1)
      have a5 := a4.new (o := .lst [.bl true, .non, .str "1", .ref t1, .int (-1), .int 0]) npl
      have x5 := Ex.new (o := .lst [.bl true, .non, .str "1", .ref t1, .int (-1), .int 0]) (a4.nh npl)
      refine ⟨b, .ref pl, _, _, rfl, a5, .inl ⟨pl, rfl, sq_of upd_same⟩, by show 0 < 6; decide, by show 6 < 1073741824; decide, fun v H6 hv hA6 => ⟨by show 4 ≤ sizeLine; decide, fun L nL => ?_⟩⟩
      have hv' : ∃ dd, Rep (upd (upd G t1 (.tup [.int 1])) pl (.lst [.bl true, .non, .str "1", .ref t1, .int (-1), .int 0])) v dd ∧ small dd := by
        simp only [List.mem_cons, List.not_mem_nil, or_false] at hv
        rcases hv with rfl | rfl | rfl | rfl | rfl | rfl
        · exact ⟨_, .bl true, by decide +kernel, by decide +kernel, by decide +kernel⟩
        · exact ⟨_, .non, by decide +kernel, by decide +kernel, by decide +kernel⟩
        · exact ⟨_, .str _, by decide +kernel, by decide +kernel, by decide +kernel⟩
        · exact ⟨_, .tup (x5 _ _ upd_same) (.cons (.int _) .nil), by decide +kernel, by decide +kernel, by decide +kernel⟩
        · exact ⟨_, .int (-1), by decide +kernel, by decide +kernel, by decide +kernel⟩
        · exact ⟨_, .int 0, by decide +kernel, by decide +kernel, by decide +kernel⟩
      obtain ⟨dv, hdv, sdv⟩ := hv'
      have a7 := hA6.new (o := .lst [.int w1, .int ((itm p (k + 1) : Nat) - 1), .int ((k : Int) + 1), v]) nL
      have x7 := Ex.new (o := .lst [.int w1, .int ((itm p (k + 1) : Nat) - 1), .int ((k : Int) + 1), v]) (hA6.nh nL)
      have smi : ∀ z : Int, small (.int z) := fun z => ⟨Nat.zero_le _, Nat.zero_le _, rfl⟩
      have hu : u < 4 := by omega
      have hw : ∃ x dx, [V.int w1, .int ((itm p (k + 1) : Nat) - 1), .int ((k : Int) + 1), v][u]? = some x ∧ Rep (upd (upd (upd G t1 (.tup [.int 1])) pl (.lst [.bl true, .non, .str "1", .ref t1, .int (-1), .int 0])) L (.lst [.int w1, .int ((itm p (k + 1) : Nat) - 1), .int ((k : Int) + 1), v])) x dx ∧ small dx := by
        match u, hu with
        | 0, _ => exact ⟨_, _, rfl, .int _, smi _⟩
        | 1, _ => exact ⟨_, _, rfl, .int _, smi _⟩
        | 2, _ => exact ⟨_, _, rfl, .int _, smi _⟩
        | 3, _ => exact ⟨_, _, rfl, hdv.mono x7, sdv⟩
      obtain ⟨x, dx, gx, rx, sx⟩ := hw
      refine ⟨_, rfl, L, _, _, x, rfl, rfl, sq_of upd_same, at_of (j := u) rfl gx, ?_⟩
      have xg := x4.trans (x5.trans x7)
      have hag := xg _ _ ha
      -- p[:k] + (x,) + p[k + 1:]
      refine ⟨_, rfl, _, rfl, _, rfl, a, nvs p, rfl, st_of (a7.ex _ _ hag), nlo, fun s1 ns1 => ⟨_, rfl, by show 1 ≤ sizeLine; decide, fun s2 ns2 => ?_⟩⟩
      have a8 := a7.new (o := .tup (cutV (nvs p) none (some (k : Int)))) ns1
      have x8 := Ex.new (o := .tup (cutV (nvs p) none (some (k : Int)))) (a7.nh ns1)
      have a9 := a8.new (o := .tup [x]) ns2
      have x9 := Ex.new (o := .tup [x]) (a8.nh ns2)
      refine cat_go a9 (x9 _ _ upd_same) upd_same .cut (.one (rx.mono (x8.trans x9)) sx) (by have := cl none (some (k : Int)); show _ + 1 ≤ 4096; omega) fun s3 zs G3 H8 e8 a10 h3 sm3 l3 => ?_
      have l3 : zs.length ≤ 61 := by
        have := cl none (some (k : Int))
        have l3 : zs.length ≤ (cutV (nvs p) none (some (k : Int))).length + 1 := l3
        omega
      have e3 := x8.trans (x9.trans e8)
      refine ⟨_, rfl, _, rfl, _, 1, rfl, rfl, _, rfl, a, nvs p, rfl, st_of (a10.ex _ _ (e3 _ _ hag)), nhi, fun s4 ns4 => ?_⟩
      have a11 := a10.new (o := .tup (cutV (nvs p) (some ((k : Int) + 1)) none)) ns4
      have x11 := Ex.new (o := .tup (cutV (nvs p) (some ((k : Int) + 1)) none)) (a10.nh ns4)
      have := cl (some ((k : Int) + 1)) none
      exact cat_go a11 (x11 _ _ h3) upd_same (sm3.mono x11) .cut (by omega) fun s5 zs2 G4 H9 e9 a12 h5 sm5 l5 => out s5 zs2 G4 H9 (xg.trans (e3.trans (x11.trans e9))) a12 h5 sm5 (by omega)
    refine ⟨_, rfl, rfl, _, rfl, ite2 (fun h4 => ?_) (fun h4 => ?_)⟩
    · refine ⟨_, rfl, _, rfl, _, rfl, a, nvs p, rfl, st_of (hA2.ex _ _ ha), nlo, fun s1 ns1 => ?_⟩
      have a8 := hA2.new (o := .tup (cutV (nvs p) none (some (k : Int)))) ns1
      have x8 := Ex.new (o := .tup (cutV (nvs p) none (some (k : Int)))) (hA2.nh ns1)
      refine ⟨_, rfl, _, rfl, _, 1, rfl, rfl, _, rfl, a, nvs p, rfl, st_of (a8.ex _ _ (x8 _ _ ha)), nhi, fun s4 ns4 => ?_⟩
      have a11 := a8.new (o := .tup (cutV (nvs p) (some ((k : Int) + 1)) none)) ns4
      have x11 := Ex.new (o := .tup (cutV (nvs p) (some ((k : Int) + 1)) none)) (a8.nh ns4)
      have := cl (some ((k : Int) + 1)) none
      have := cl none (some (k : Int))
      exact cat_go a11 (x11 _ _ upd_same) upd_same .cut .cut (by omega) fun s5 zs2 G4 H9 e9 a12 h5 sm5 l5 => out s5 zs2 G4 H9 (x8.trans (x11.trans e9)) a12 h5 sm5 (by omega)
    refine ⟨_, rfl, rfl, _, rfl, ite2 (fun h5 => ?_) (fun h5 => ?_)⟩
    · refine ⟨_, rfl, _, rfl, _, rfl, a, nvs p, rfl, st_of (hA2.ex _ _ ha), nlo, fun s1 ns1 => ⟨_, rfl, _, 1, rfl, rfl, by show 1 ≤ sizeLine; decide, fun s2 ns2 => ?_⟩⟩
      have a8 := hA2.new (o := .tup (cutV (nvs p) none (some (k : Int)))) ns1
      have x8 := Ex.new (o := .tup (cutV (nvs p) none (some (k : Int)))) (hA2.nh ns1)
      have a9 := a8.new (o := .tup [.int ((k : Int) + 1)]) ns2
      have x9 := Ex.new (o := .tup [.int ((k : Int) + 1)]) (a8.nh ns2)
      refine cat_go a9 (x9 _ _ upd_same) upd_same .cut (.one (.int _) ⟨Nat.zero_le _, Nat.zero_le _, rfl⟩) (by have := cl none (some (k : Int)); show _ + 1 ≤ 4096; omega) fun s3 zs G3 H8 e8 a10 h3 sm3 l3 => ?_
      have l3 : zs.length ≤ 61 := by
        have := cl none (some (k : Int))
        have l3 : zs.length ≤ (cutV (nvs p) none (some (k : Int))).length + 1 := l3
        omega
      have e3 := x8.trans (x9.trans e8)
      refine ⟨_, rfl, _, rfl, _, rfl, a, nvs p, rfl, st_of (a10.ex _ _ (e3 _ _ ha)), fun _ => ?_, fun _ s4 ns4 => ?_⟩
      · exact cat_go a10 h3 (e3 _ _ ha) sm3 .row (by omega) fun s5 zs2 G4 H9 e9 a12 h5 sm5 l5 => out s5 zs2 G4 H9 (e3.trans e9) a12 h5 sm5 (by omega)
      · have a11 := a10.new (o := .tup (cutV (nvs p) (some (k : Int)) none)) ns4
        have x11 := Ex.new (o := .tup (cutV (nvs p) (some (k : Int)) none)) (a10.nh ns4)
        have := cl (some (k : Int)) none
        exact cat_go a11 (x11 _ _ h3) upd_same (sm3.mono x11) .cut (by omega) fun s5 zs2 G4 H9 e9 a12 h5 sm5 l5 => out s5 zs2 G4 H9 (e3.trans (x11.trans e9)) a12 h5 sm5 (by omega)
    refine ⟨_, rfl, rfl, _, rfl, ite2 (fun h6 => ?_) (fun h6 => ?_)⟩
    · refine ⟨_, rfl, a, nvs p, rfl, .inr (st_of (hA2.ex _ _ ha)), fun l nl => ?_⟩
      exact q _ _ _ _ (Ex.new (hA2.nh nl)) (hA2.new nl) (.lst upd_same (reps_ndats p)) (okV_lst (fun d hd => small_ndats hd) (by unfold ndats; rw [List.length_map, hP.len]; omega))
    · refine ⟨_, rfl, _, rfl, by show 1 ≤ sizeLine; decide, fun p1 n1 => ⟨by show 3 ≤ sizeLine; decide, fun p2 n2 => ⟨by show 3 ≤ sizeLine; decide, fun p3 n3 => ⟨by show 2 ≤ sizeLine; decide, fun p4 n4 => ⟨by show 3 ≤ sizeLine; decide, fun p5 n5 => ⟨by show 3 ≤ sizeLine; decide, fun p6 n6 => ⟨by show 1 ≤ sizeLine; decide, fun p7 n7 => ⟨by show 2 ≤ sizeLine; decide, fun p8 n8 => ⟨by show 4 ≤ sizeLine; decide, fun p9 n9 => ⟨by show 1 ≤ sizeLine; decide, fun p10 n10 => ⟨by show 3 ≤ sizeLine; decide, fun p11 n11 => ⟨by show 11 ≤ sizeLine; decide, fun pl npl => ?_⟩⟩⟩⟩⟩⟩⟩⟩⟩⟩⟩⟩
      have a1 := hA2.new (o := .tup [.ref a]) n1
      have x1 := Ex.new (o := .tup [.ref a]) (hA2.nh n1)
      have a2 := a1.new (o := .tup [.int 1, .int 1, .int 2]) n2
      have x2 := Ex.new (o := .tup [.int 1, .int 1, .int 2]) (a1.nh n2)
      have a3 := a2.new (o := .tup [.int 1, .int 2, .int 2]) n3
      have x3 := Ex.new (o := .tup [.int 1, .int 2, .int 2]) (a2.nh n3)
      have a4 := a3.new (o := .tup [.int 2, .int 2]) n4
      have x4 := Ex.new (o := .tup [.int 2, .int 2]) (a3.nh n4)
      have a5 := a4.new (o := .tup [.int 1, .int 1, .int 1]) n5
      have x5 := Ex.new (o := .tup [.int 1, .int 1, .int 1]) (a4.nh n5)
      have a6 := a5.new (o := .tup [.int 1, .int 2, .int 3]) n6
      have x6 := Ex.new (o := .tup [.int 1, .int 2, .int 3]) (a5.nh n6)
      have a7 := a6.new (o := .tup [.bl true]) n7
      have x7 := Ex.new (o := .tup [.bl true]) (a6.nh n7)
      have a8 := a7.new (o := .tup [.int 1, .bl true]) n8
      have x8 := Ex.new (o := .tup [.int 1, .bl true]) (a7.nh n8)
      have a9 := a8.new (o := .tup [.int 1, .int 1, .int 2, .int 2]) n9
      have x9 := Ex.new (o := .tup [.int 1, .int 1, .int 2, .int 2]) (a8.nh n9)
      have a10 := a9.new (o := .tup [.int 0]) n10
      have x10 := Ex.new (o := .tup [.int 0]) (a9.nh n10)
      have a11 := a10.new (o := .tup [.int 1, .int 3, .int 3]) n11
      have x11 := Ex.new (o := .tup [.int 1, .int 3, .int 3]) (a10.nh n11)
      have b1 := a11.new (o := .lst [.ref p1, .ref p2, .ref p3, .ref p4, .ref p5, .ref p6, .ref p7, .ref p8, .ref p9, .ref p10, .ref p11]) npl
      have y11 := Ex.new (o := .lst [.ref p1, .ref p2, .ref p3, .ref p4, .ref p5, .ref p6, .ref p7, .ref p8, .ref p9, .ref p10, .ref p11]) (a11.nh npl)
      have y10 := x11.trans y11
      have y9 := x10.trans y10
      have y8 := x9.trans y9
      have y7 := x8.trans y8
      have y6 := x7.trans y7
      have y5 := x6.trans y6
      have y4 := x5.trans y5
      have y3 := x4.trans y4
      have y2 := x3.trans y3
      have y1 := x2.trans y2
      have y0 := x1.trans y1
      refine ⟨b, pl, _, _, rfl, b1, upd_same, by show 11 ≤ 20; decide, fun x hx => ?_, fun v d G' H' e hA' hr ho => q v d G' H' (y0.trans e) hA' hr ho⟩
      simp only [List.mem_cons, List.not_mem_nil, or_false] at hx
      rcases hx with rfl | rfl | rfl | rfl | rfl | rfl | rfl | rfl | rfl | rfl | rfl
      · refine ⟨_, .tup (y1 _ _ upd_same) (.cons (rep_of_nvs (y0 _ _ ha)) .nil), okV_tup (fun d hd => ?_) (by show 1 ≤ 4096; decide)⟩
        rw [List.mem_singleton.mp hd]
        obtain ⟨z1, z2, z3⟩ := okV_nats hP (Nat.le_trans hn (by decide))
        refine ⟨?_, z2, z3⟩
        show PyData.depthAll (ndats p) + 1 ≤ 3
        have : PyData.depthAll (ndats p) ≤ 0 := depthAll_of fun d hd => by
          obtain ⟨x, _, rfl⟩ := List.mem_map.mp hd
          exact Nat.le_refl _
        omega
      · exact ⟨_, .tup (y2 _ _ upd_same) (.cons (.int _) (.cons (.int _) (.cons (.int _) .nil))), by decide +kernel, by decide +kernel, by decide +kernel⟩
      · exact ⟨_, .tup (y3 _ _ upd_same) (.cons (.int _) (.cons (.int _) (.cons (.int _) .nil))), by decide +kernel, by decide +kernel, by decide +kernel⟩
      · exact ⟨_, .tup (y4 _ _ upd_same) (.cons (.int _) (.cons (.int _) .nil)), by decide +kernel, by decide +kernel, by decide +kernel⟩
      · exact ⟨_, .tup (y5 _ _ upd_same) (.cons (.int _) (.cons (.int _) (.cons (.int _) .nil))), by decide +kernel, by decide +kernel, by decide +kernel⟩
      · exact ⟨_, .tup (y6 _ _ upd_same) (.cons (.int _) (.cons (.int _) (.cons (.int _) .nil))), by decide +kernel, by decide +kernel, by decide +kernel⟩
      · exact ⟨_, .tup (y7 _ _ upd_same) (.cons (.bl true) .nil), by decide +kernel, by decide +kernel, by decide +kernel⟩
      · exact ⟨_, .tup (y8 _ _ upd_same) (.cons (.int _) (.cons (.bl true) .nil)), by decide +kernel, by decide +kernel, by decide +kernel⟩
      · exact ⟨_, .tup (y9 _ _ upd_same) (.cons (.int _) (.cons (.int _) (.cons (.int _) (.cons (.int _) .nil)))), by decide +kernel, by decide +kernel, by decide +kernel⟩
      · exact ⟨_, .tup (y10 _ _ upd_same) (.cons (.int _) .nil), by decide +kernel, by decide +kernel, by decide +kernel⟩
      · exact ⟨_, .tup (y11 _ _ upd_same) (.cons (.int _) (.cons (.int _) (.cons (.int _) .nil))), by decide +kernel, by decide +kernel, by decide +kernel⟩
end
end Eyes

set_option Elab.async false
set_option linter.all false
set_option maxRecDepth 100000
set_option maxHeartbeats 4000000
namespace Eyes
open PySem PySem.Spec PyProof.Rows L2 Evl TL LamX
/-! ### the lambdas' tables -/
theorem TT_memA (AA : Adr) : (AA.tbA, (envOfC "_law_judged_so" (defScope s_law_judged_so) 0 0 .none).qual ++ "<lambda>") ∈ TT AA := .head _
theorem TT_memB (AA : Adr) : (AA.tbB, (envOfC "_law_pairs_so" (defScope s_law_pairs_so) 0 0 .none).qual ++ "<lambda>") ∈ TT AA := .tail _ (.head _)
theorem TT_unA {K : PySem.W.Frag} {mg : Str → Option Value} {AA : Adr} (T : Txt K mg AA) : ∀ p ∈ TT AA, p.1 = AA.tbA → p.2 = (envOfC "_law_judged_so" (defScope s_law_judged_so) 0 0 .none).qual ++ "<lambda>" := fun p hp e => by
  rcases List.mem_cons.mp hp with rfl | hp
  · rfl
  · rw [List.mem_singleton.mp hp] at e
    exact absurd e.symm T.tne
theorem TT_unB {K : PySem.W.Frag} {mg : Str → Option Value} {AA : Adr} (T : Txt K mg AA) : ∀ p ∈ TT AA, p.1 = AA.tbB → p.2 = (envOfC "_law_pairs_so" (defScope s_law_pairs_so) 0 0 .none).qual ++ "<lambda>" := fun p hp e => by
  rcases List.mem_cons.mp hp with rfl | hp
  · exact absurd e T.tne
  · rw [List.mem_singleton.mp hp]
theorem At.extN {b : Addr} {G H H1 : Hp} {TT : List (Addr × Str)} (h : At b G H) (e : ExtN H H1) (t : Tabs TT H1) : ∃ G', At b G' H1 ∧ ExtN G G' ∧ Tabs TT G' ∧ ∀ a o, H1 a = some o → H a = none ∨ (∃ o2, G a = some o2) → G' a = some o := by
  obtain ⟨c, ns, i, r, m, n, B⟩ := h
  have hb := e _ _ B.at_ (fun _ => nofun)
  have hc := e _ _ B.cells (fun _ => nofun)
  have keep : ∀ {a : Addr} {o : HO}, H1 a = some o → (∀ xs, o ≠ .lst xs) → (if a = b ∨ a = c then none else H1 a) = some o := fun {a o} z n => by
    rw [if_neg ?_]
    · exact z
    · rintro (rfl | rfl)
      · rw [hb] at z
        cases z
        exact n _ rfl
      · rw [hc] at z
        cases z
        exact n _ rfl
  refine ⟨fun a => if a = b ∨ a = c then none else H1 a, ⟨c, ns, i, r, m, n, if_pos (.inl rfl), if_pos (.inr rfl), fun a u z => ?_, hb, hc, B.ne, B.i0, B.r0, B.m0, B.m1⟩, fun a o z nt => ?_, fun p hp => ?_, fun a o z g => ?_⟩
  · by_cases hc : a = b ∨ a = c
    · have z : (if a = b ∨ a = c then none else H1 a) = some u := z
      rw [if_pos hc] at z
      cases z
    · have z : (if a = b ∨ a = c then none else H1 a) = some u := z
      rw [if_neg hc] at z
      exact z
  · show (if a = b ∨ a = c then none else H1 a) = some o
    rw [if_neg ?_]
    · exact e _ _ (B.ex _ _ z) nt
    · rintro (rfl | rfl)
      · rw [B.nb] at z
        cases z
      · rw [B.nc] at z
        cases z
  · obtain ⟨ps, h1, h2, h3⟩ := t p hp
    refine ⟨ps, keep h1 (fun _ => nofun), h2, fun pos cv hcv => ?_⟩
    obtain ⟨c', e1, e2⟩ := h3 pos cv hcv
    exact ⟨c', e1, keep e2 (fun _ => nofun)⟩
  · show (if a = b ∨ a = c then none else H1 a) = some o
    rw [if_neg ?_]
    · exact z
    · rintro (rfl | rfl)
      · rcases g with g | ⟨o2, g⟩
        · rw [B.at_] at g
          cases g
        · rw [B.nb] at g
          cases g
      · rcases g with g | ⟨o2, g⟩
        · rw [B.cells] at g
          cases g
        · rw [B.nc] at g
          cases g
theorem TyX.exN {K : PySem.W.Frag} {H H' : Hp} {v : V} {t : Value} (e : ExtN H H') (h : TyX K H v t) : TyX K H' v t := by
  cases h with
  | base h =>
    cases h with
    | non => exact .base .non
    | bl b => exact .base (.bl b)
    | int b => exact .base (.int b)
    | str b => exact .base (.str b)
    | flt b => exact .base (.flt b)
    | lst h => exact .base (.lst (e _ _ h (fun _ => nofun)))
    | frz h => exact .base (.frz (e _ _ h (fun _ => nofun)))
    | tup h => exact .base (.tup (e _ _ h (fun _ => nofun)))
    | dK h => exact .base (.dK (e _ _ h (fun _ => nofun)))
    | dT h => exact .base (.dT (e _ _ h (fun _ => nofun)))
    | ins h h1 h2 h3 h4 h5 => exact .base (.ins (e _ _ h (fun _ => nofun)) h1 h2 h3 h4 h5)
  | byt b => exact .byt b
  | set h => exact .set (e _ _ h (fun _ => nofun))
  | kList h c => exact .kList h c
  | kTuple h c => exact .kTuple h c
  | kDict h c => exact .kDict h c
  | fTuple h => exact .fTuple (e _ _ h (fun _ => nofun))
  | fDict h => exact .fDict (e _ _ h (fun _ => nofun))
mutual
theorem CiAt.mono2 {C : Addr} {H H' : Hp} (e1 : ∀ a C dx fs, H a = some (.ins C dx fs) → H' a = some (.ins C dx fs)) (e2 : ∀ a xs, H a = some (.lst xs) → H' a = some (.lst xs)) : ∀ {v : V} {c : Ci}, CiAt C H v c → CiAt C H' v c
  | _, _, .mk h0 h1 h2 h3 => .mk h0 (e1 _ _ _ _ h1) (e2 _ _ h2) (CisAt.mono2 e1 e2 h3)
theorem CisAt.mono2 {C : Addr} {H H' : Hp} (e1 : ∀ a C dx fs, H a = some (.ins C dx fs) → H' a = some (.ins C dx fs)) (e2 : ∀ a xs, H a = some (.lst xs) → H' a = some (.lst xs)) : ∀ {vs : List V} {cs : List Ci}, CisAt C H vs cs → CisAt C H' vs cs
  | _, _, .nil => .nil
  | _, _, .cons h r => .cons (CiAt.mono2 e1 e2 h) (CisAt.mono2 e1 e2 r)
end
theorem CiAt.exN {C : Addr} {H H' : Hp} {v : V} {c : Ci} (e : ExtN H H') (h : CiAt C H v c) : CiAt C H' v c := h.mono2 (fun _ _ _ _ z => e _ _ z (fun _ => nofun)) fun _ _ z => e _ _ z (fun _ => nofun)
theorem Sm.up {C : Addr} {H : Hp} {n : Nat} {x y : V} (h : Sm C H n x y) : ∀ {m : Nat}, n ≤ m → Sm C H m x y := by
  induction h with
  | sc h => intro m hm; obtain ⟨j, rfl⟩ : ∃ j, m = j + 1 := ⟨m - 1, by omega⟩; exact .sc h
  | ci h1 h2 h3 => intro m hm; obtain ⟨j, rfl⟩ : ∃ j, m = j + 1 := ⟨m - 1, by omega⟩; exact .ci h1 h2 h3
  | lst h1 h2 h3 h4 _ ih => intro m hm; obtain ⟨j, rfl⟩ : ∃ j, m = j + 1 := ⟨m - 1, by omega⟩; exact .lst h1 h2 h3 h4 fun i u v e1 e2 => ih i u v e1 e2 (by omega)
  | tup h1 h2 h3 h4 _ ih => intro m hm; obtain ⟨j, rfl⟩ : ∃ j, m = j + 1 := ⟨m - 1, by omega⟩; exact .tup h1 h2 h3 h4 fun i u v e1 e2 => ih i u v e1 e2 (by omega)
theorem Sm.exN {C : Addr} {H H' : Hp} (e : ExtN H H') {n : Nat} {x y : V} (h : Sm C H n x y) : Sm C H' n x y := by
  induction h with
  | sc h => exact .sc h
  | ci h1 h2 h3 => exact .ci (h1.exN e) (h2.exN e) h3
  | lst h1 h2 h3 h4 _ ih => exact .lst (e _ _ h1 (fun _ => nofun)) (e _ _ h2 (fun _ => nofun)) h3 h4 ih
  | tup h1 h2 h3 h4 _ ih => exact .tup (e _ _ h1 (fun _ => nofun)) (e _ _ h2 (fun _ => nofun)) h3 h4 ih
theorem one_sm {C : Addr} {H : Hp} {n : Nat} {x : V} (h : Sm C H n x x) (i : Nat) (u v : V) (e1 : [x][i]? = some u) (e2 : [x][i]? = some v) : Sm C H n u v := by
  rw [e1] at e2
  cases e2
  rw [List.mem_singleton.mp (List.mem_of_getElem? e1)]
  exact h
theorem pair_sm {C : Addr} {H : Hp} {n : Nat} {a b p q : Addr} {z : Str} {x : V} (ha : H a = some (.tup [.str z, .ref p])) (hp : H p = some (.tup [x])) (hb : H b = some (.tup [.str z, .ref q])) (hq : H q = some (.tup [x])) (hx : Sm C H (n + 1) x x) : Sm C H (n + 3) (.ref a) (.ref b) := by
  refine .tup ha hb rfl (by show 2 ≤ 90000; decide) fun i u v e1 e2 => ?_
  match i, e1, e2 with
  | 0, e1, e2 =>
    cases e1
    cases e2
    exact .sc (.inr (.inr (.inr ⟨_, rfl⟩)))
  | 1, e1, e2 =>
    cases e1
    cases e2
    exact .tup hp hq rfl (by show 1 ≤ 90000; decide) (one_sm hx)
  | i + 2, e1, e2 => simp at e1
theorem none_sm {C : Addr} {H : Hp} {n : Nat} {a b p q : Addr} {z : Str} (ha : H a = some (.tup [.str z, .ref p])) (hp : H p = some (.tup [])) (hb : H b = some (.tup [.str z, .ref q])) (hq : H q = some (.tup [])) : Sm C H (n + 3) (.ref a) (.ref b) := by
  refine .tup ha hb rfl (by show 2 ≤ 90000; decide) fun i u v e1 e2 => ?_
  match i, e1, e2 with
  | 0, e1, e2 =>
    cases e1
    cases e2
    exact .sc (.inr (.inr (.inr ⟨_, rfl⟩)))
  | 1, e1, e2 =>
    cases e1
    cases e2
    exact .tup hp hq rfl (Nat.zero_le _) (fun j u v e1 _ => by simp at e1)
  | i + 2, e1, e2 => simp at e1
mutual
theorem Rep.exN {H H' : Hp} (e : ExtN H H') : ∀ {v : V} {d : PyData}, Rep H v d → Rep H' v d
  | _, _, .non => .non
  | _, _, .bl b => .bl b
  | _, _, .int i => .int i
  | _, _, .str z => .str z
  | _, _, .lst h r => .lst (e _ _ h (fun _ => nofun)) (Reps.exN e r)
  | _, _, .tup h r => .tup (e _ _ h (fun _ => nofun)) (Reps.exN e r)
theorem Reps.exN {H H' : Hp} (e : ExtN H H') : ∀ {us : List V} {ds : List PyData}, Reps H us ds → Reps H' us ds
  | _, _, .nil => .nil
  | _, _, .cons h r => .cons (Rep.exN e h) (Reps.exN e r)
end
def DueP (G : Hp) (w : Addr) (r : Option V) : Prop := match r with
  | none => ∃ e, G w = some (.tup [.str "", .ref e]) ∧ G e = some (.tup [])
  | some z => ∃ e, G w = some (.tup [.str "InvalidParting", .ref e]) ∧ G e = some (.tup [z])
theorem DueP.exN {G G' : Hp} {w : Addr} {r : Option V} (h : DueP G w r) (n : ExtN G G') : DueP G' w r := by
  cases r with
  | none =>
    obtain ⟨e, h1, h2⟩ := h
    exact ⟨e, n _ _ h1 (fun _ => nofun), n _ _ h2 (fun _ => nofun)⟩
  | some z =>
    obtain ⟨e, h1, h2⟩ := h
    exact ⟨e, n _ _ h1 (fun _ => nofun), n _ _ h2 (fun _ => nofun)⟩
theorem DueP.sm {C : Addr} {H : Hp} {w w2 : Addr} {r : Option V} (h : DueP H w r) (g : DueP H w2 r) (hz : ∀ z, r = some z → Sm C H 9 z z) : Sm C H 11 (.ref w) (.ref w2) := by
  cases r with
  | none =>
    obtain ⟨e, h1, h2⟩ := h
    obtain ⟨e', g1, g2⟩ := g
    exact none_sm (n := 8) h1 h2 g1 g2
  | some z =>
    obtain ⟨e, h1, h2⟩ := h
    obtain ⟨e', g1, g2⟩ := g
    exact pair_sm (n := 8) h1 h2 g1 g2 (hz z rfl)
theorem refP_none {v1 v2 : V} {d1 d2 : PyData} (h : refP v1 d1 v2 d2 = none) (o : okV d1) : ∃ n p q, d1 = .tuple (ndats p) ∧ d2 = .tuple (ndats q) ∧ 1 ≤ n ∧ n ≤ 4096 ∧ IsP n p ∧ IsP n q := by
  unfold refP at h
  by_cases g1 : partD d1 = true
  · rw [if_pos g1] at h
    by_cases g2 : partD d2 = true ∧ lenD d1 = lenD d2
    · obtain ⟨p, hp, hp1, hpp⟩ := partD_isP g1
      obtain ⟨q, hq, hq1, hqq⟩ := partD_isP g2.1
      subst hp hq
      have hl : (ndats p).length = (ndats q).length := g2.2
      have hw := o.2.1
      simp only [wid] at hw
      unfold ndats at hl hw
      rw [List.length_map] at hl hw
      rw [List.length_map] at hl
      exact ⟨p.length, p, q, rfl, rfl, hp1, by omega, hpp, by rw [hl]; exact hqq⟩
    · rw [if_neg g2] at h
      cases h
  · rw [if_neg g1] at h
    cases h
theorem refP_some {v1 v2 : V} {d1 d2 : PyData} {z : V} (h : refP v1 d1 v2 d2 = some z) : z = v1 ∨ z = v2 := by
  unfold refP at h
  by_cases g1 : partD d1 = true
  · rw [if_pos g1] at h
    by_cases g2 : partD d2 = true ∧ lenD d1 = lenD d2
    · rw [if_pos g2] at h
      cases h
    · rw [if_neg g2] at h
      exact .inr (Option.some.inj h).symm
  · rw [if_neg g1] at h
    exact .inl (Option.some.inj h).symm
theorem why_two {AA : Adr} {good : Nat → List Nat → List Nat → Hp → VK → Prop} {u v : V} {du dv : PyData} {tl : XK → Hp → VK → Prop} {Ha : Hp} {Q : VK} (htl : ∀ E1 Q1, spTwoP AA good [u, v] Ha Q1 E1 → tl E1 Ha Q1)
    (hg : ∀ n p q (Q1 : VK), (∀ w H', Ex Ha H' → Q1 w H') → good n p q Ha Q1) (ru : Rep Ha u du) (ou : okV du) (rv : Rep Ha v dv) (ov : okV dv)
    (k : ∀ w H', Ex Ha H' → DueP H' w (refP u du v dv) → Q (.ref w) H') : tWhy3 AA tl Ha Q := by
  refine ⟨fun cls d H2 => ∃ z, refP u du v dv = some z ∧ cls = .ref AA.InvalidParting ∧ ∃ dd, d = some dd ∧ Ex Ha H2 ∧ H2 dd = some (.xd [("value", z)]), fun _ H2 => refP u du v dv = none ∧ Ex Ha H2, htl _ _ ⟨u, du, v, dv, rfl, ru, ou, rv, ov, ?_⟩, fun w H1 h1 p1 p2 H' e hp1 hp2 => ?_, fun cls d H1 h1 => ?_⟩
  · cases hr : refP u du v dv with
    | none =>
      obtain ⟨n, p, q, e1, e2, h1, hn, hP, hQ⟩ := refP_none hr ou
      exact .inl ⟨n, p, q, e1, e2, h1, hn, hP, hQ, hg n p q _ fun w H' e => ⟨rfl, e⟩⟩
    | some z => exact .inr ⟨z, rfl, fun d H' hd e hx => ⟨z, rfl, rfl, d, rfl, e, hx⟩⟩
  · obtain ⟨hr, e1⟩ := h1
    refine k p2 H' (e1.trans e) ?_
    rw [hr]
    exact ⟨p1, hp2, hp1⟩
  · obtain ⟨z, hr, rfl, dd, rfl, e1, hx⟩ := h1
    refine ⟨"InvalidParting", "value", dd, z, .inr (.inr ⟨rfl, rfl, rfl⟩), rfl, hx, fun p1 p2 H' e h1 h2 => k p2 H' (e1.trans e) ?_⟩
    rw [hr]
    exact ⟨p1, h2, h1⟩
def spJudged (AA : Adr) : Sp := fun vs H Q _ => ∃ (b a : Addr) (n : Nat) (p : List Nat) (G : Hp), vs = [.ref b, .ref a] ∧ At b G H ∧ Tabs (TT AA) G ∧ G a = some (.tup (nvs p)) ∧ IsP n p ∧ 1 ≤ n ∧ n ≤ 60 ∧ ∀ G' H', At b G' H' → ExtN G G' → Tabs (TT AA) G' → Q (.bl true) H'
section
variable {P : Program} {w : World} {K : PySem.W.Frag} {mg : Str → Option Value} {base : Heap} {AA : Adr}
theorem ok_law_judged_so (T : Txt K mg AA) (TB : TabB base mg AA.cdA AA.tbA) : Pr P w K mg base "_law_judged_so" s_law_judged_so p_law_judged_so 15 (spJudged AA) := by
  refine pr_mkC T.f_law_judged_so sc_law_judged_so (fun vs H Q E h => ?_) (fun f A outer s H vs Q E hr h => ?_)
  · obtain ⟨b, a, n, p, G, rfl, _⟩ := h
    rfl
  · obtain ⟨b, a, n, p, G, rfl, hA, hT, ha, hP, h1, hn, q⟩ := h
    refine ⟨_, (pss_cons (ps_par (i := 2) (j := 3) rfl sc_law_judged_so.nd rfl rfl (by decide) rfl rfl (pa_cons (pcall (ok_law_near_rows T) hr (pa_cons (pv 0) (pa_cons (pv 1) pa_nil))) (pa_cons (pcall (ok_law_near_rows T) hr (pa_cons (pv 0) (pa_cons (pv 1) pa_nil))) pa_nil)) rfl)
      (pss_cons (ps_if (pt_not (pt_val (pcall (ok_law_sm T 12) hr (pa_cons (pe_lst (pa_cons (pcall (ok_is_parting T) hr (pa_cons (pv 2) pa_nil)) (pa_cons (pcallN0 (ok_is_parting T) kw_is_parting_0_value hr (pk_cons (pv 3) pk_nil)) (pa_cons (pcall (ok_is_parting T) hr (pa_cons (pv 1) pa_nil)) pa_nil)))) (pa_cons (pe_lst (pa_cons (pcall (ok_law_is_rows T) hr (pa_cons (pv 2) pa_nil)) (pa_cons (pcall (ok_law_is_rows T) hr (pa_cons (pv 3) pa_nil)) (pa_cons pe_bl pa_nil)))) pa_nil)))))
      (pss_one (ps_ret pe_bl))
      pss_nil)
      (pss_cons (ps_for PassesOwn.never rfl (pi_list (pe_lst (pa_cons (pe_tup (pa_cons (pv 2) (pa_cons (pv 3) pa_nil))) (pa_cons (pe_tup (pa_cons (pv 1) (pa_cons (pv 3) pa_nil))) (pa_cons (pe_tup (pa_cons (pv 2) (pa_cons (pv 1) pa_nil))) pa_nil))))) (pg_name (i := 4) sc_law_judged_so.nd rfl (.inl rfl))
      (pss_cons (ps_asg (pe_tup (pa_cons (pe_ix (ix_tupK (K := K) rfl) (pv 4) pe_int (fun _ _ => rfl)) (pa_cons (pe_ix (ix_tupK (K := K) rfl) (pv 4) pe_int (fun _ _ => rfl)) pa_nil))) (pg_tup (by rfl) (pgs_cons (pg_name (i := 7) sc_law_judged_so.nd rfl (.inr rfl)) (pgs_cons (pg_name (i := 8) sc_law_judged_so.nd rfl (.inr rfl)) pgs_nil))))
      (pss_cons (ps_set (i := 5) sc_law_judged_so.nd rfl (.inl rfl) (pe_tup (pa_cons pe_str (pa_cons (pe_tup pa_nil) pa_nil))))
      (Evl.pss_cut (ps_if (pt_not (pt_val (pcall (ok_law_is_rows T) hr (pa_cons (pv 7) pa_nil))))
      (pss_one (ps_set (i := 5) sc_law_judged_so.nd rfl (.inl rfl) (pe_tup (pa_cons pe_str (pa_cons (pe_tup (pa_cons (pv 7) pa_nil)) pa_nil)))))
      (pss_one (ps_if (PW.pt (pw_or (pt_not (pt_val (pcall (ok_law_is_rows T) hr (pa_cons (pv 8) pa_nil)))) (pw_or1 (pt_cmpR op_ne (pe_callB call_len (by rfl) T.n_len PySem.boot_len (pa_cons (pv 7) pa_nil)) (pe_callB call_len (by rfl) T.n_len PySem.boot_len (pa_cons (pv 8) pa_nil)) (nomark _)))))
      (pss_one (ps_set (i := 5) sc_law_judged_so.nd rfl (.inl rfl) (pe_tup (pa_cons pe_str (pa_cons (pe_tup (pa_cons (pv 8) pa_nil)) pa_nil)))))
      pss_nil)))
      (pss_cons (ps_set (i := 6) sc_law_judged_so.nd rfl (.inl rfl) (pe_lst (pa_cons (pe_lamh (T := TT AA) (kk := 10) (ok_law_why3 T) rfl TB rfl (TT_memA AA) (TT_unA T) hr (by decide) (lamS_by (by show lamSB (defScope s_law_judged_so) _ = true; decide +kernel)) rfl (fun _ _ _ _ _ => rfl) (fun A outer s H E f c' hr => (pcallX (ok_meet_of T) hr (takes_of (E := E) rfl rfl rfl rfl) (pa_cons (pv 7) (pa_cons (pv 8) pa_nil))))) (pa_cons (pe_lamD (T := TT AA) (kk := 10) (a := "_law_a") (ki := _) (z := 0) (ok_law_why3 T) rfl TB rfl (TT_memA AA) (TT_unA T) hr (by decide) (lamN_by (by show lamNB n_law_judged_so (defScope s_law_judged_so) _ = true; decide +kernel)) rfl ⟨fun _ _ _ _ _ _ _ => ⟨_, rfl, rfl⟩, rfl⟩ (fun A outer s H E f c' hr => (pcallX (ok_join_of T) hr (takes_of (E := E) rfl rfl rfl rfl) (pa_cons (pv 7) (pa_cons (pv 8) pa_nil))))) (pa_cons (pe_lamD (T := TT AA) (kk := 10) (a := "_law_b") (ki := _) (z := 0) (ok_law_why3 T) rfl TB rfl (TT_memA AA) (TT_unA T) hr (by decide) (lamN_by (by show lamNB n_law_judged_so (defScope s_law_judged_so) _ = true; decide +kernel)) rfl ⟨fun _ _ _ _ _ _ _ => ⟨_, rfl, rfl⟩, rfl⟩ (fun A outer s H E f c' hr => (pcallX (ok_is_within T) hr (takes_of (E := E) rfl rfl rfl rfl) (pa_cons (pv 7) (pa_cons (pv 8) pa_nil))))) pa_nil)))))
      (pss_one (ps_if (pt_not (pt_val (pcall (ok_law_sm T 12) hr (pa_cons (pv 6) (pa_cons (pe_lst (pa_cons (pv 5) (pa_cons (pv 5) (pa_cons (pv 5) pa_nil)))) pa_nil)))))
      (pss_one (ps_ret pe_bl))
      pss_nil)))))))
      (pss_one (ps_ret pe_bl))))), ?_⟩
    have hdp : partD (.tuple (ndats p)) = true := partD_of hP h1
    have hok : okV (.tuple (ndats p)) := okV_nats hP (Nat.le_trans hn (by decide))
    have part : ∀ {d : PyData}, okV d → ∀ ds, d = .tuple ds → ds.length ≤ 4096 ∧ ∀ e ∈ ds, SeqAt.shaped e = true := fun o ds hd => by
      subst hd
      exact o.part
    refine ⟨_, rfl, _, rfl, b, a, n, p, G, rfl, hA, ha, hP, h1, hn, fun x dx G1 H1 e1 hA1 rx ox => ?_⟩
    refine ⟨_, rfl, _, rfl, b, a, n, p, G1, rfl, hA1, e1 _ _ ha, hP, h1, hn, fun y dy G2 H2 e2 hA2 ry oy => ⟨_, _, rfl, ?_⟩⟩
    have rx2 := rx.mono e2
    have ha2 := e2 _ _ (e1 _ _ ha)
    have hT2 : Tabs (TT AA) G2 := hT.ext (e1.trans e2)
    have rp2 : Rep G2 (.ref a) (.tuple (ndats p)) := rep_of_nvs ha2
    -- judged
    refine ⟨_, rfl, x, dx, rfl, rx2.mono hA2.ex, part ox, fun H3 e3 => ⟨_, rfl, rfl, rfl, y, dy, rfl, ry.mono (hA2.ex.trans e3), part oy, fun H4 e4 => ⟨_, rfl, .ref a, _, rfl, rp2.mono (hA2.ex.trans (e3.trans e4)), part hok, fun H5 e5 => ⟨by show 3 ≤ sizeLine; decide, fun l nl => ?_⟩⟩⟩⟩
    have y1 := e3.trans (e4.trans (e5.trans (Ex.new (o := .lst [.bl (partD dx), .bl (partD dy), .bl (partD (.tuple (ndats p)))]) nl)))
    have hl : (upd H5 l (.lst [.bl (partD dx), .bl (partD dy), .bl (partD (.tuple (ndats p)))])) l = _ := upd_same
    generalize upd H5 l (.lst [.bl (partD dx), .bl (partD dy), .bl (partD (.tuple (ndats p)))]) = H6 at y1 hl ⊢
    refine ⟨_, rfl, x, dx, rfl, rx2.mono (hA2.ex.trans y1), ox, _, rfl, y, dy, rfl, ry.mono (hA2.ex.trans y1), oy, by show 3 ≤ sizeLine; decide, fun l2 nl2 => ?_⟩
    have y2 := Ex.new (o := .lst [.bl (partD dx), .bl (partD dy), .bl true]) nl2
    refine ⟨_, _, rfl, Sms.lst (.cons (.bl rfl) (.cons (.bl rfl) (.cons (.bl hdp) .nil))) (y2 _ _ hl) upd_same (by show 3 ≤ 90000; decide), fun H7 e7 => ⟨_, rfl, iteF ?_⟩⟩
    have hA7 : At b G2 H7 := hA2.mono (y1.trans (y2.trans e7))
    clear y1 y2 e7 hl nl nl2 e3 e4 e5
    -- three pairs
    refine ⟨_, rfl, _, rfl, by show 2 ≤ sizeLine; decide, fun t1 nt1 => ⟨_, rfl, _, rfl, by show 2 ≤ sizeLine; decide, fun t2 nt2 => ⟨_, rfl, _, rfl, by show 2 ≤ sizeLine; decide, fun t3 nt3 => ⟨by show 3 ≤ sizeLine; decide, fun L nL => ?_⟩⟩⟩⟩
    have b1 := hA7.new (o := .tup [x, y]) nt1
    have x1 := Ex.new (o := .tup [x, y]) (hA7.nh nt1)
    have b2 := b1.new (o := .tup [.ref a, y]) nt2
    have x2 := Ex.new (o := .tup [.ref a, y]) (b1.nh nt2)
    have b3 := b2.new (o := .tup [x, .ref a]) nt3
    have x3 := Ex.new (o := .tup [x, .ref a]) (b2.nh nt3)
    have b4 := b3.new (o := .lst [.ref t1, .ref t2, .ref t3]) nL
    have x4 := Ex.new (o := .lst [.ref t1, .ref t2, .ref t3]) (b3.nh nL)
    have x34 := x3.trans x4
    have x24 := x2.trans x34
    have x14 := x1.trans x24
    have g1 := x24 _ _ (upd_same (H := G2) (a := t1) (o := .tup [x, y]))
    have g2 := x34 _ _ (upd_same (H := upd G2 t1 (.tup [x, y])) (a := t2) (o := .tup [.ref a, y]))
    have g3 := x4 _ _ (upd_same (H := upd (upd G2 t1 (.tup [x, y])) t2 (.tup [.ref a, y])) (a := t3) (o := .tup [x, .ref a]))
    have gL := upd_same (H := upd (upd (upd G2 t1 (.tup [x, y])) t2 (.tup [.ref a, y])) t3 (.tup [x, .ref a])) (a := L) (o := .lst [.ref t1, .ref t2, .ref t3])
    have rx4 := rx2.mono x14
    have ry4 := ry.mono x14
    have rp4 := rp2.mono x14
    have hT4 := hT2.ext x14
    have e04 := ExtN.of (e1.trans (e2.trans x14))
    clear x1 x2 x3 x4 x34 x24 x14 b1 b2 b3 rx2 ry rp2 hT2 ha2
    generalize upd (upd (upd (upd G2 t1 (.tup [x, y])) t2 (.tup [.ref a, y])) t3 (.tup [x, .ref a])) L (.lst [.ref t1, .ref t2, .ref t3]) = G4 at b4 g1 g2 g3 gL rx4 ry4 rp4 hT4 e04
    generalize upd (upd (upd (upd H7 t1 (.tup [x, y])) t2 (.tup [.ref a, y])) t3 (.tup [x, .ref a])) L (.lst [.ref t1, .ref t2, .ref t3]) = H8 at b4 ⊢
    refine ⟨L, rfl, ⟨_, sq_of (b4.ex _ _ gL)⟩, ?_⟩
    refine for_list (xs := [.ref t1, .ref t2, .ref t3]) (fun i σ H' => ∃ (y4 y5 y6 y7 y8 : Option V) (G' : Hp), σ = [some (.ref b), some (.ref a), some x, some y, y4, y5, y6, y7, y8] ∧ At b G' H' ∧ ExtN G4 G' ∧ Tabs (TT AA) G') ⟨_, _, _, _, _, G4, rfl, b4, ExtN.of (Ex.refl _), hT4⟩ (fun i σ H' _ hp => ?_) (fun i z σ H' hz hp => ?_) (fun σ H' hp => ?_)
    · obtain ⟨_, _, _, _, _, G', _, hA', n', _⟩ := hp
      exact sq_of (hA'.ex _ _ (n' _ _ gL (fun _ => nofun)))
    · obtain ⟨y4, y5, y6, y7, y8, G', rfl, hA', n', tG'⟩ := hp
      obtain ⟨t, u, v, du, dv, rfl, gt, ru, ou, rv, ov⟩ : ∃ t u v du dv, z = .ref t ∧ G4 t = some (.tup [u, v]) ∧ Rep G4 u du ∧ okV du ∧ Rep G4 v dv ∧ okV dv := by
        match i, hz with
        | 0, hz =>
          cases hz
          exact ⟨t1, x, y, dx, dy, rfl, g1, rx4, ox, ry4, oy⟩
        | 1, hz =>
          cases hz
          exact ⟨t2, .ref a, y, _, dy, rfl, g2, rp4, hok, ry4, oy⟩
        | 2, hz =>
          cases hz
          exact ⟨t3, x, .ref a, dx, _, rfl, g3, rx4, ox, rp4, hok⟩
      have gt := n' _ _ gt (fun _ => nofun)
      have ru := ru.exN n'
      have rv := rv.exN n'
      have ht := hA'.ex _ _ gt
      refine ⟨_, rfl, t, _, 0, u, rfl, rfl, st_of ht, rfl, _, rfl, t, _, 1, v, rfl, rfl, st_of ht, rfl, by show 2 ≤ sizeLine; decide, fun s ns => ⟨s, _, rfl, st_of upd_same, rfl, _, _, rfl, _, _, rfl, rfl, ?_⟩⟩
      have c1 := hA'.new (o := .tup [u, v]) ns
      have z1 := Ex.new (o := .tup [u, v]) (hA'.nh ns)
      refine ⟨by show 0 ≤ sizeLine; decide, fun q1 nq1 => ⟨by show 2 ≤ sizeLine; decide, fun q2 nq2 => ?_⟩⟩
      have c2 := c1.new (o := .tup []) nq1
      have z2 := Ex.new (o := .tup []) (c1.nh nq1)
      have c3 := c2.new (o := .tup [.str "", .ref q1]) nq2
      have z3 := Ex.new (o := .tup [.str "", .ref q1]) (c2.nh nq2)
      have z13 := z1.trans (z2.trans z3)
      have d0 : DueP _ q2 none := ⟨q1, upd_same (H := upd (upd G' s (.tup [u, v])) q1 (.tup [])) (a := q2) (o := .tup [.str "", .ref q1]), z3 _ _ upd_same⟩
      have ru := ru.mono z13
      have rv := rv.mono z13
      have n3 := n'.trans (ExtN.of z13)
      have t3 := tG'.ext z13
      generalize upd (upd (upd G' s (.tup [u, v])) q1 (.tup [])) q2 (.tup [.str "", .ref q1]) = G5 at c3 d0 ru rv n3 t3
      generalize upd (upd (upd H' s (.tup [u, v])) q1 (.tup [])) q2 (.tup [.str "", .ref q1]) = H9 at c3 ⊢
      clear z1 z2 z3 z13 c1 c2 ht gt
      refine ⟨fun σ' H' => ∃ (dd : Addr) (G' : Hp) (y6 : Option V), σ' = [some (.ref b), some (.ref a), some x, some y, some (.ref t), some (.ref dd), y6, some u, some v] ∧ At b G' H' ∧ Ex G5 G' ∧ DueP G' dd (refP u du v dv), ?_, fun σ' H' hm => ?_⟩
      · refine ⟨_, rfl, u, du, rfl, ru.mono c3.ex, ou, _, rfl, ?_⟩
        cases hu : partD du with
        | false =>
          refine iteT ⟨_, rfl, by show 1 ≤ sizeLine; decide, fun e0 ne0 => ⟨by show 2 ≤ sizeLine; decide, fun w0 nw0 => ?_⟩⟩
          have c4 := c3.new (o := .tup [u]) ne0
          have z4 := Ex.new (o := .tup [u]) (c3.nh ne0)
          have c5 := c4.new (o := .tup [.str "InvalidParting", .ref e0]) nw0
          have z5 := Ex.new (o := .tup [.str "InvalidParting", .ref e0]) (c4.nh nw0)
          refine ⟨w0, _, _, rfl, c5, z4.trans z5, ?_⟩
          unfold refP
          rw [if_neg (by rw [hu]; simp)]
          exact ⟨e0, upd_same, z5 _ _ upd_same⟩
        | true =>
          refine iteF ⟨_, rfl, v, dv, rfl, rv.mono c3.ex, ov, _, rfl, ?_⟩
          have second : refP u du v dv = some v → ∀ e0, H9 e0 = none → ∀ w0, upd H9 e0 (.tup [v]) w0 = none → ∃ (dd : Addr) (G' : Hp) (y6' : Option V), [some (V.ref b), some (.ref a), some x, some y, some (.ref t), some (.ref w0), y6, some u, some v] = [some (.ref b), some (.ref a), some x, some y, some (.ref t), some (.ref dd), y6', some u, some v] ∧ At b G' (upd (upd H9 e0 (.tup [v])) w0 (.tup [.str "InvalidParting", .ref e0])) ∧ Ex G5 G' ∧ DueP G' dd (refP u du v dv) := fun hr e0 ne0 w0 nw0 => by
            have c4 := c3.new (o := .tup [v]) ne0
            have z4 := Ex.new (o := .tup [v]) (c3.nh ne0)
            have c5 := c4.new (o := .tup [.str "InvalidParting", .ref e0]) nw0
            have z5 := Ex.new (o := .tup [.str "InvalidParting", .ref e0]) (c4.nh nw0)
            refine ⟨w0, _, _, rfl, c5, z4.trans z5, ?_⟩
            rw [hr]
            exact ⟨e0, upd_same, z5 _ _ upd_same⟩
          cases hv : partD dv with
          | false =>
            refine iteT (iteT ⟨_, rfl, by show 1 ≤ sizeLine; decide, fun e0 ne0 => ⟨by show 2 ≤ sizeLine; decide, fun w0 nw0 => second ?_ e0 ne0 w0 nw0⟩⟩)
            unfold refP
            rw [if_pos hu, if_neg (by rw [hv]; simp)]
          | true =>
            obtain ⟨pu, hpu, _, _⟩ := partD_isP hu
            obtain ⟨pv', hpv, _, _⟩ := partD_isP hv
            subst hpu hpv
            obtain ⟨au, rfl, hau⟩ := (ru.mono c3.ex).nvs'
            obtain ⟨av, rfl, hav⟩ := (rv.mono c3.ex).nvs'
            refine iteF ⟨_, rfl, .ref au, _, rfl, .inr ⟨_, st_of hau, rfl⟩, _, rfl, .ref av, _, rfl, .inr ⟨_, st_of hav, rfl⟩, rfl, _, rfl, ite2 (fun h0 => ?_) (fun h0 => ?_)⟩
            · refine ⟨_, rfl, by show 1 ≤ sizeLine; decide, fun e0 ne0 => ⟨by show 2 ≤ sizeLine; decide, fun w0 nw0 => second ?_ e0 ne0 w0 nw0⟩⟩
              unfold refP
              rw [if_pos hu, if_neg]
              rintro ⟨_, z⟩
              have z : (ndats pu).length = (ndats pv').length := z
              unfold ndats at z
              rw [List.length_map, List.length_map] at z
              rw [nvs_len, nvs_len, z] at h0
              simp at h0
            · refine ⟨q2, G5, _, rfl, c3, Ex.refl _, ?_⟩
              unfold refP
              rw [if_pos hu, if_pos]
              · exact d0
              · refine ⟨hv, ?_⟩
                show (ndats pu).length = (ndats pv').length
                unfold ndats
                rw [List.length_map, List.length_map]
                rw [nvs_len, nvs_len] at h0
                by_cases z : pu.length = pv'.length
                · exact z
                · exact absurd (by simp; omega) h0
      · obtain ⟨dd, G6, y6', rfl, hA6, e6, D6⟩ := hm
        have ru := (ru.mono e6).mono hA6.ex
        have rv := (rv.mono e6).mono hA6.ex
        have t6 := (t3.ext e6).ext hA6.ex
        refine ⟨t6, fun Ha na ta => why_two (u := u) (v := v) (fun E1 Q1 (h : spMeetX AA [u, v] Ha Q1 E1) => ⟨_, rfl, _, rfl, h⟩) (fun n p q Q1 h r H' e _ _ => h _ H' e) (ru.exN na) ou (rv.exN na) ov fun w1 Hb eb D1 => ?_⟩
        have nb := na.trans (ExtN.of eb)
        refine ⟨ta.ext eb, fun Hc nc tc => why_two (u := u) (v := v) (fun E1 Q1 (h : spJoinX AA [u, v] Hc Q1 E1) => ⟨_, rfl, _, rfl, h⟩) (fun n p q Q1 h r H' e _ _ => h _ H' e) (ru.exN (nb.trans nc)) ou (rv.exN (nb.trans nc)) ov fun w2 Hd ed D2 => ?_⟩
        have nd := nb.trans (nc.trans (ExtN.of ed))
        refine ⟨tc.ext ed, fun He ne te => why_two (u := u) (v := v) (fun E1 Q1 (h : spWithinX AA [u, v] He Q1 E1) => ⟨_, rfl, _, rfl, h⟩) (fun n p q Q1 h H' e => h _ H' e) (ru.exN (nd.trans ne)) ou (rv.exN (nd.trans ne)) ov fun w3 Hf ef D3 => ⟨by show 3 ≤ sizeLine; decide, fun W nW => ?_⟩⟩
        have nW' := ExtN.of (Ex.new (o := .lst [.ref w1, .ref w2, .ref w3]) nW)
        refine ⟨_, rfl, _, rfl, _, rfl, _, rfl, by show 3 ≤ sizeLine; decide, fun W2 nW2 => ?_⟩
        have nW3 := ExtN.of (Ex.new (o := .lst [.ref dd, .ref dd, .ref dd]) nW2)
        have nWW := nW'.trans nW3
        have m1 := (nc.trans (ExtN.of ed)).trans ((ne.trans (ExtN.of ef)).trans nWW)
        have m2 := (ne.trans (ExtN.of ef)).trans nWW
        have m0 := nb.trans m1
        have D6 := (D6.exN (ExtN.of hA6.ex)).exN m0
        have hz9 : ∀ z, refP u du v dv = some z → Sm AA.Circle (upd (upd Hf W (.lst [.ref w1, .ref w2, .ref w3])) W2 (.lst [.ref dd, .ref dd, .ref dd])) 9 z z := fun z hz => by
          rcases refP_some hz with rfl | rfl
          · exact Rep.sm 9 (ru.exN m0) (ru.exN m0) (by have := ou.1; omega) (by have := ou.2.1; omega)
          · exact Rep.sm 9 (rv.exN m0) (rv.exN m0) (by have := ov.1; omega) (by have := ov.2.1; omega)
        refine ⟨_, _, rfl, Sms.lst (.cons ((D1.exN m1).sm D6 hz9) (.cons ((D2.exN m2).sm D6 hz9) (.cons ((D3.exN nWW).sm D6 hz9) .nil))) (Ex.new nW2 _ _ upd_same) upd_same (by show 3 ≤ 90000; decide), fun Hg eg => ⟨_, rfl, iteF ?_⟩⟩
        have tg : Tabs (TT AA) Hg := te.ext (ef.trans ((Ex.new nW).trans ((Ex.new nW2).trans eg)))
        obtain ⟨G7, hA7', n7, t7, _⟩ := hA6.extN (m0.trans (ExtN.of eg)) tg
        exact ⟨_, _, _, _, _, G7, rfl, hA7', n3.trans ((ExtN.of e6).trans n7), t7⟩
    · obtain ⟨_, _, _, _, _, G', rfl, hA', n', t'⟩ := hp
      exact q G' H' hA' (e04.trans n') t'
end
end Eyes

set_option Elab.async false
set_option linter.all false
set_option maxRecDepth 100000
set_option maxHeartbeats 4000000
namespace Eyes
open PySem PySem.Spec PyProof.Rows L2 Evl TL LamX
theorem tabs_keep {T : List (Addr × Str)} {G G' : Hp} (t : Tabs T G) (h : ∀ a o, G a = some o → (∀ xs, o ≠ .lst xs) → G' a = some o) : Tabs T G' := fun p hp => by
  obtain ⟨ps, h1, h2, h3⟩ := t p hp
  refine ⟨ps, h _ _ h1 (fun _ => nofun), h2, fun pos cv hcv => ?_⟩
  obtain ⟨c', e1, e2⟩ := h3 pos cv hcv
  exact ⟨c', e1, h _ _ e2 (fun _ => nofun)⟩
theorem keep_upd {G : Hp} {p : Addr} {xs : List V} {u : HO} (hp : G p = some (.lst xs)) : ∀ a o, G a = some o → (∀ ys, o ≠ .lst ys) → upd G p u a = some o := fun a o h n => by
  rw [upd_ne]
  · exact h
  · rintro rfl
    rw [hp] at h
    cases h
    exact n _ rfl
abbrev noH : Hp := fun _ => none

theorem At.grow {b : Addr} {G H H1 : Hp} (h : At b G H) (e : Ex H H1) : ∃ G', At b G' H1 ∧ Ex G G' ∧ (∀ a o, H1 a = some o → (∀ xs, o ≠ .lst xs) → G' a = some o) ∧ ∀ a o, H1 a = some o → H a = none ∨ (∃ o2, G a = some o2) → G' a = some o := by
  obtain ⟨c, ns, i, r, m, n, B⟩ := h
  have hb := e _ _ B.at_
  have hc := e _ _ B.cells
  refine ⟨fun a => if a = b ∨ a = c then none else H1 a, ⟨c, ns, i, r, m, n, if_pos (.inl rfl), if_pos (.inr rfl), fun a u z => ?_, hb, hc, B.ne, B.i0, B.r0, B.m0, B.m1⟩, fun a o z => ?_, fun a o z nl => ?_, fun a o z g => ?_⟩
  · by_cases hc : a = b ∨ a = c
    · have z : (if a = b ∨ a = c then none else H1 a) = some u := z
      rw [if_pos hc] at z
      cases z
    · have z : (if a = b ∨ a = c then none else H1 a) = some u := z
      rw [if_neg hc] at z
      exact z
  · show (if a = b ∨ a = c then none else H1 a) = some o
    rw [if_neg ?_]
    · exact e _ _ (B.ex _ _ z)
    · rintro (rfl | rfl)
      · rw [B.nb] at z
        cases z
      · rw [B.nc] at z
        cases z
  · show (if a = b ∨ a = c then none else H1 a) = some o
    rw [if_neg ?_]
    · exact z
    · rintro (rfl | rfl)
      · rw [hb] at z
        cases z
        exact nl _ rfl
      · rw [hc] at z
        cases z
        exact nl _ rfl
  · show (if a = b ∨ a = c then none else H1 a) = some o
    rw [if_neg ?_]
    · exact z
    · rintro (rfl | rfl)
      · rcases g with g | ⟨o2, g⟩
        · rw [B.at_] at g
          cases g
        · rw [B.nb] at g
          cases g
      · rcases g with g | ⟨o2, g⟩
        · rw [B.cells] at g
          cases g
        · rw [B.nc] at g
          cases g
theorem ExtN.mut {H H' : Hp} {p : Addr} {o : HO} (n : ExtN H H') (h : H p = none) : ExtN H (upd H' p o) := fun a u z nt => by
  rw [upd_ne fun e => by rw [e, h] at z; cases z]
  exact n a u z nt
/-! ### the same pairs in another order -/
theorem mrgs_into {n : Nat} {l m : List (Nat × Nat)} (hl : inN n l) (hm : inN n m) (h : ∀ xy ∈ l, xy ∈ m ∨ (xy.2, xy.1) ∈ m) : Le n (mrgs (alone n) l) (mrgs (alone n) m) := fun x y h1 h2 h3 h4 a =>
  mrgs_least (f := itm (mrgs (alone n) m)) (isP_alone n) hl (fun u v u1 u2 v1 v2 e => by
    have e : itm (alone n) u = itm (alone n) v := e
    rw [itm_alone u1 u2, itm_alone v1 v2] at e
    rw [e]) (fun xy hxy => by
    rcases h xy hxy with z | z
    · exact mrgs_joins (isP_alone n) hm z
    · exact (mrgs_joins (isP_alone n) hm z).symm) ⟨h1, h2⟩ ⟨h3, h4⟩ a
theorem mrgs_eqv {n : Nat} {l m : List (Nat × Nat)} (hl : inN n l) (hm : inN n m) (h : ∀ xy ∈ l, xy ∈ m ∨ (xy.2, xy.1) ∈ m) (g : ∀ xy ∈ m, xy ∈ l ∨ (xy.2, xy.1) ∈ l) : mrgs (alone n) l = mrgs (alone n) m :=
  Le.anti (isP_mrgs (isP_alone n) hl) (isP_mrgs (isP_alone n) hm) (mrgs_into hl hm h) (mrgs_into hm hl g)
theorem mrgs_rev {n : Nat} {l : List (Nat × Nat)} (hl : inN n l) : mrgs (alone n) l.reverse = mrgs (alone n) l :=
  mrgs_eqv (fun xy h => hl xy (List.mem_reverse.mp h)) hl (fun xy h => .inl (List.mem_reverse.mp h)) fun xy h => .inl (List.mem_reverse.mpr h)
def swp (l : List (Nat × Nat)) : List (Nat × Nat) := l.map fun xy => (xy.2, xy.1)
theorem swp_mem {l : List (Nat × Nat)} {xy : Nat × Nat} (h : xy ∈ swp l) : (xy.2, xy.1) ∈ l := by
  obtain ⟨z, hz, rfl⟩ := List.mem_map.mp h
  exact hz
theorem swp_in {n : Nat} {l : List (Nat × Nat)} (hl : inN n l) : inN n (l ++ swp l) := fun xy h => by
  rcases List.mem_append.mp h with h | h
  · exact hl xy h
  · have := hl _ (swp_mem h)
    exact ⟨this.2, this.1⟩
theorem mrgs_swp {n : Nat} {l : List (Nat × Nat)} (hl : inN n l) : mrgs (alone n) (l ++ swp l) = mrgs (alone n) l :=
  mrgs_eqv (swp_in hl) hl (fun xy h => by
    rcases List.mem_append.mp h with h | h
    · exact .inl h
    · exact .inr (swp_mem h)) fun xy h => .inl (List.mem_append_left _ h)
/-! ### rows of pairs as data -/
def pairDs (l : List (Nat × Nat)) : List PyData := l.map fun xy => PyData.tuple [.int xy.1, .int xy.2]
theorem prh_reps {G : Hp} : ∀ {ws : List V} {l : List (Nat × Nat)}, Prh G ws l → Reps G ws (pairDs l)
  | [], [], _ => .nil
  | [], _ :: _, h => by cases h.1
  | _ :: _, [], h => by cases h.1
  | w :: ws, xy :: l, h => by
    obtain ⟨t, xy', rfl, h2, h3⟩ := h.2 0 w rfl
    cases h2
    exact .cons (.tup h3 (.cons (.int _) (.cons (.int _) .nil))) (prh_reps ⟨by simpa using h.1, fun i v hv => h.2 (i + 1) v hv⟩)
theorem pairD_in {n : Nat} {l : List (Nat × Nat)} (hl : inN n l) : ∀ d ∈ pairDs l, pairD n d = true := fun d hd => by
  obtain ⟨xy, hxy, rfl⟩ := List.mem_map.mp hd
  have := hl xy hxy
  show ((decide ((1 : Int) ≤ (xy.1 : Nat)) && decide (((xy.1 : Nat) : Int) ≤ (n : Int))) && (decide ((1 : Int) ≤ (xy.2 : Nat)) && decide (((xy.2 : Nat) : Int) ≤ (n : Int)))) = true
  rw [decide_eq_true (by omega), decide_eq_true (by omega), decide_eq_true (by omega), decide_eq_true (by omega)]
  rfl
theorem pairs_all {n : Nat} : ∀ {ds : List PyData}, (∀ d ∈ ds, pairD n d = true) → ∃ l : List (Nat × Nat), ds = l.map (fun xy : Nat × Nat => PyData.tuple [.int xy.1, .int xy.2])
  | [], _ => ⟨[], rfl⟩
  | d :: ds, h => by
    obtain ⟨x, y, rfl, _, _⟩ := pairD_of (h d List.mem_cons_self)
    obtain ⟨l, rfl⟩ := pairs_all fun e he => h e (List.mem_cons_of_mem _ he)
    exact ⟨(x, y) :: l, rfl⟩
theorem prh_rev {G : Hp} {ws : List V} {l : List (Nat × Nat)} (h : Prh G ws l) : Prh G ws.reverse l.reverse := ⟨by rw [List.length_reverse, List.length_reverse, h.1], fun i v hv => by
  have hi := (List.getElem?_eq_some_iff.mp hv).1
  rw [List.length_reverse] at hi
  rw [List.getElem?_reverse hi] at hv
  obtain ⟨t, xy, h1, h2, h3⟩ := h.2 _ v hv
  exact ⟨t, xy, h1, by rw [List.getElem?_reverse (by rw [← h.1]; exact hi), ← h.1]; exact h2, h3⟩⟩
theorem prh_app {G : Hp} {ws us : List V} {l m : List (Nat × Nat)} (h : Prh G ws l) (g : Prh G us m) : Prh G (ws ++ us) (l ++ m) := ⟨by rw [List.length_append, List.length_append, h.1, g.1], fun i v hv => by
  rcases Nat.lt_or_ge i ws.length with z | z
  · rw [List.getElem?_append_left z] at hv
    obtain ⟨t, xy, h1, h2, h3⟩ := h.2 i v hv
    exact ⟨t, xy, h1, by rw [List.getElem?_append_left (by rw [← h.1]; exact z)]; exact h2, h3⟩
  · rw [List.getElem?_append_right z] at hv
    obtain ⟨t, xy, h1, h2, h3⟩ := g.2 _ v hv
    exact ⟨t, xy, h1, by rw [List.getElem?_append_right (by rw [← h.1]; exact z), ← h.1]; exact h2, h3⟩⟩
def Oks (G : Hp) (us : List V) : Prop := ∀ x ∈ us, ∃ d, Rep G x d ∧ okV d
theorem Oks.mono {G G' : Hp} {us : List V} (h : Oks G us) (e : Ex G G') : Oks G' us := fun x hx => by
  obtain ⟨d, h1, h2⟩ := h x hx
  exact ⟨d, h1.mono e, h2⟩
theorem Oks.reps {G : Hp} : ∀ {us : List V}, Oks G us → ∃ ds, Reps G us ds ∧ ∀ d ∈ ds, okV d
  | [], _ => ⟨[], .nil, fun d hd => by cases hd⟩
  | x :: us, h => by
    obtain ⟨d, h1, h2⟩ := h x List.mem_cons_self
    obtain ⟨ds, g1, g2⟩ := Oks.reps (us := us) fun y hy => h y (List.mem_cons_of_mem _ hy)
    exact ⟨d :: ds, .cons h1 g1, fun e he => by
      rcases List.mem_cons.mp he with rfl | he
      · exact h2
      · exact g2 e he⟩
theorem okV_pair (x y : Int) : okV (.tuple [.int x, .int y]) := ⟨by show 1 < 5; decide, by show 2 ≤ 4096; decide, rfl⟩
theorem prh_oks {G : Hp} {ws : List V} {l : List (Nat × Nat)} (h : Prh G ws l) : Oks G ws := fun x hx => by
  obtain ⟨i, hi⟩ := List.getElem?_of_mem hx
  obtain ⟨t, xy, rfl, _, h3⟩ := h.2 i x hi
  exact ⟨_, .tup h3 (.cons (.int _) (.cons (.int _) .nil)), okV_pair _ _⟩
theorem cut_mem {us : List V} {lo hi : Option Int} {x : V} (h : x ∈ cutV us lo hi) : x ∈ us := by
  unfold cutV at h
  exact List.mem_of_mem_drop (List.mem_of_mem_take h)
theorem Prh.sm {C : Addr} {H : Hp} {ws : List V} {l : List (Nat × Nat)} {a b : Addr} {k : Nat} (h : Prh H ws l) (ha : H a = some (.lst ws)) (hb : H b = some (.lst ws)) (hl : ws.length ≤ 90000) : Sm C H (k + 3) (.ref a) (.ref b) :=
  .lst ha hb rfl hl fun i u v e1 e2 => by
    rw [e1] at e2
    cases e2
    obtain ⟨t, xy, rfl, _, h3⟩ := h.2 i u e1
    exact Sms.tup (.cons .int' (.cons .int' .nil)) h3 h3 (by show 2 ≤ 90000; decide)
/-! ### which of them are no pairs -/
def badN (n : Nat) (ds : List PyData) (i : Nat) : List Nat := (List.range i).filter fun j => !pairD n (ds.getD j .none)
theorem badN_len {n : Nat} {ds : List PyData} {i : Nat} : (badN n ds i).length ≤ i := by
  unfold badN
  refine Nat.le_trans (List.length_filter_le _ _) ?_
  rw [List.length_range]
  exact Nat.le_refl _
theorem badN_mem {n : Nat} {ds : List PyData} {i j : Nat} : j ∈ badN n ds i ↔ j < i ∧ pairD n (ds.getD j .none) = false := by
  unfold badN
  rw [List.mem_filter, List.mem_range, Bool.not_eq_true']
theorem badN_y {n : Nat} {ds : List PyData} {i : Nat} {d : PyData} (hd : ds[i]? = some d) (h : pairD n d = false) : badN n ds (i + 1) = badN n ds i ++ [i] := by
  unfold badN
  rw [List.range_succ, List.filter_append, List.filter_cons, if_pos (by rw [List.getD_eq_getElem?_getD, hd]; show (!pairD n d) = true; rw [h]; rfl)]
  rfl
theorem badN_n {n : Nat} {ds : List PyData} {i : Nat} {d : PyData} (hd : ds[i]? = some d) (h : pairD n d = true) : badN n ds (i + 1) = badN n ds i := by
  unfold badN
  rw [List.range_succ, List.filter_append, List.filter_cons, if_neg (by rw [List.getD_eq_getElem?_getD, hd]; show ¬ (!pairD n d) = true; rw [h]; simp)]
  exact List.append_nil _
theorem badN_first {n : Nat} {ds : List PyData} {k : Nat} {r : List Nat} (h : badN n ds ds.length = k :: r) : badPair n ds k := by
  have hk : k ∈ badN n ds ds.length := by rw [h]; exact List.mem_cons_self
  obtain ⟨h1, h2⟩ := badN_mem.mp hk
  refine ⟨⟨_, List.getElem?_eq_getElem h1, ?_⟩, fun j d hj hd => ?_⟩
  · rw [List.getD_eq_getElem?_getD, List.getElem?_eq_getElem h1] at h2
    exact h2
  · cases hp : pairD n d with
    | true => rfl
    | false =>
      have hm : j ∈ badN n ds ds.length := badN_mem.mpr ⟨by omega, by rw [List.getD_eq_getElem?_getD, hd]; exact hp⟩
      have hs : List.Pairwise (· < ·) (badN n ds ds.length) := by
        unfold badN
        exact List.Pairwise.filter _ List.pairwise_lt_range
      rw [h] at hm hs
      rcases List.mem_cons.mp hm with rfl | hm
      · omega
      · have := (List.pairwise_cons.mp hs).1 j hm
        omega
theorem badN_nil {n : Nat} {ds : List PyData} (h : badN n ds ds.length = []) : ∀ d ∈ ds, pairD n d = true := fun d hd => by
  obtain ⟨j, hj⟩ := List.getElem?_of_mem hd
  cases hp : pairD n d with
  | true => rfl
  | false =>
    have hm : j ∈ badN n ds ds.length := badN_mem.mpr ⟨(List.getElem?_eq_some_iff.mp hj).1, by rw [List.getD_eq_getElem?_getD, hj]; exact hp⟩
    rw [h] at hm
    cases hm
/-! ### what a try tells -/
def Due2 (G : Hp) (w : Addr) (r : Option (Str × V)) : Prop := match r with
  | none => ∃ e, G w = some (.tup [.str "", .ref e]) ∧ G e = some (.tup [])
  | some z => ∃ e, G w = some (.tup [.str z.1, .ref e]) ∧ G e = some (.tup [z.2])
theorem Due2.exN {G G' : Hp} {w : Addr} {r : Option (Str × V)} (h : Due2 G w r) (n : ExtN G G') : Due2 G' w r := by
  cases r with
  | none =>
    obtain ⟨e, h1, h2⟩ := h
    exact ⟨e, n _ _ h1 (fun _ => nofun), n _ _ h2 (fun _ => nofun)⟩
  | some z =>
    obtain ⟨e, h1, h2⟩ := h
    exact ⟨e, n _ _ h1 (fun _ => nofun), n _ _ h2 (fun _ => nofun)⟩
theorem Due2.sm {C : Addr} {H : Hp} {w w2 : Addr} {r : Option (Str × V)} (h : Due2 H w r) (g : Due2 H w2 r) (hz : ∀ z, r = some z → Sm C H 9 z.2 z.2) : Sm C H 11 (.ref w) (.ref w2) := by
  cases r with
  | none =>
    obtain ⟨e, h1, h2⟩ := h
    obtain ⟨e', g1, g2⟩ := g
    exact none_sm (n := 8) h1 h2 g1 g2
  | some z =>
    obtain ⟨e, h1, h2⟩ := h
    obtain ⟨e', g1, g2⟩ := g
    exact pair_sm (n := 8) h1 h2 g1 g2 (hz z rfl)
section
variable {AA : Adr} {K : PySem.W.Frag} {v1 v2 : V} {tl : XK → Hp → VK → Prop} {Ha : Hp} {Q : VK}
theorem why_err {cls : Value} {nm f : Str} {z : V} (he : Err3 AA cls nm f) (htl : ∀ E1 Q1, spParting K AA [v1, v2] Ha Q1 E1 → tl E1 Ha Q1)
    (hs : ∀ (E1 : XK) Q1, (∀ d H', Ha d = none → Ex Ha H' → H' d = some (.xd [(f, z)]) → E1 cls (some d) H') → spParting K AA [v1, v2] Ha Q1 E1) (k : ∀ w H', Ex Ha H' → Due2 H' w (some (nm, z)) → Q (.ref w) H') : tWhy3 AA tl Ha Q := by
  refine ⟨fun c d H2 => c = cls ∧ ∃ dd, d = some dd ∧ Ex Ha H2 ∧ H2 dd = some (.xd [(f, z)]), fun _ _ => False, htl _ _ (hs _ _ fun d H' hd e hx => ⟨rfl, d, rfl, e, hx⟩), fun _ _ h => h.elim, fun c d H1 h => ?_⟩
  obtain ⟨rfl, dd, rfl, e1, hx⟩ := h
  exact ⟨nm, f, dd, z, he, rfl, hx, fun p1 p2 H' e h1 h2 => k p2 H' (e1.trans e) ⟨p1, h2, h1⟩⟩
theorem why_good (htl : ∀ E1 Q1, spParting K AA [v1, v2] Ha Q1 E1 → tl E1 Ha Q1) (hs : ∀ (E1 : XK) Q1, (∀ r H', Ex Ha H' → Q1 (.ref r) H') → spParting K AA [v1, v2] Ha Q1 E1) (k : ∀ w H', Ex Ha H' → Due2 H' w none → Q (.ref w) H') : tWhy3 AA tl Ha Q := by
  refine ⟨fun _ _ _ => False, fun _ H2 => Ex Ha H2, htl _ _ (hs _ _ fun r H' e => e), fun w H1 h1 p1 p2 H' e hp1 hp2 => k p2 H' (h1.trans e) ⟨p1, hp2, hp1⟩, fun _ _ _ h => h.elim⟩
end
end Eyes

set_option Elab.async false
set_option linter.all false
set_option maxRecDepth 100000
set_option maxHeartbeats 4000000
namespace Eyes
open PySem PySem.Spec PyProof.Rows L2 Evl TL LamX
theorem pi_tupK {X : Cx} {K : PySem.W.Frag} (hK : X.K = K) {tg l : Expr} {tl : TE} (hl : PE X l tl) : PI X tg l (iTup K tl) := hK ▸ pi_tup hl
theorem op_neDK {X : Cx} {K : PySem.W.Frag} (hK : X.K = K) (hu : X.A.units + 64 < cLine) : OpR X (compareOp .NotEq) (rNeD K) := hK ▸ op_neD hu
def scB : Scope := { kind := ScopeKind.function, names := [(Str.ofString ".0", NameKind.local), (Str.ofString "_law_k", NameKind.local), (Str.ofString "isinstance", NameKind.globalImplicit), (Str.ofString "tuple", NameKind.globalImplicit), (Str.ofString "len", NameKind.globalImplicit), (Str.ofString "_law_bad", NameKind.cell), (Str.ofString "_law_size", NameKind.cell)], isGenerator := false, isCoroutine := false }
def spPairs (AA : Adr) : Sp := fun vs H Q _ => ∃ (b : Addr) (n : Nat) (G : Hp), vs = [.ref b, .int n] ∧ At b G H ∧ Tabs (TT AA) G ∧ 1 ≤ n ∧ n ≤ 60 ∧ ∀ G' H', At b G' H' → ExtN G G' → Tabs (TT AA) G' → Q (.bl true) H'
section
variable {P : Program} {w : World} {K : PySem.W.Frag} {mg : Str → Option Value} {base : Heap} {AA : Adr}
theorem ok_law_pairs_so (T : Txt K mg AA) (TB : TabB base mg AA.cdB AA.tbB) : Pr P w K mg base "_law_pairs_so" s_law_pairs_so p_law_pairs_so 25 (spPairs AA) := by
  refine pr_mkC T.f_law_pairs_so sc_law_pairs_so (fun vs H Q E h => ?_) (fun f A outer s H vs Q E hr h => ?_)
  · obtain ⟨b, n, G, rfl, _⟩ := h
    rfl
  · obtain ⟨b, n, G, rfl, hA, hT, h1, hn, q⟩ := h
    refine ⟨_, (pss_cons (ps_set (i := 2) sc_law_pairs_so.nd rfl (.inl rfl) (pcall (ok_law_couples T) hr (pa_cons (pv 0) (pa_cons (pv 1) (pa_cons (pcall (ok_law_draw T) hr (pa_cons (pv 0) (pa_cons pe_int pa_nil))) pa_nil)))))
      (pss_cons (ps_set (i := 3) sc_law_pairs_so.nd rfl (.inl rfl) (pe_callTy call_list_of (by rfl) T.n_list PyProof.Rows.boot_list (pa_cons (pv 2) pa_nil)))
      (pss_cons (ps_set (i := 4) sc_law_pairs_so.nd rfl (.inl rfl) (pcall (ok_law_merged T) hr (pa_cons (pcall (ok_law_alone T) hr (pa_cons (pv 1) pa_nil)) (pa_cons (pv 2) pa_nil))))
      (pss_cons (ps_set (i := 5) sc_law_pairs_so.nd rfl (.inl rfl) (pe_lst (pa_cons (pcallY (ok_parting_of T) hr (pa_cons (pv 1) (pa_cons (pv 2) pa_nil))) (pa_cons (pcallYN0 (ok_parting_of T) kw_parting_of_0_pairs_many hr (pk_cons (pe_callTy call_tuple_of (by rfl) T.n_tuple PyProof.Rows.boot_tuple (pa_cons (pe_revL (pv 2)) pa_nil)) (pk_cons (pv 1) pk_nil))) (pa_cons (pcallY (ok_parting_of T) hr (pa_cons (pv 1) (pa_cons (pe_op op_cat (pv 2) (pe_lc (own := [("_law_x", 14), ("_law_y", 15)]) (g := gTup K 2 (gCons (gName 14) (gCons (gName 15) gNil))) (tt := tYes) rfl sc_law_pairs_so.nd (pi_list (pv 2)) (blkOk_by (own := [("_law_x", 14), ("_law_y", 15)]) (N := n_law_pairs_so) (sc := defScope s_law_pairs_so) (by decide +kernel)) (fun _ _ _ _ _ => (pg_tup (by rfl) (pgs_cons (pg_name (i := 14) sc_law_pairs_so.nd rfl (.inl rfl)) (pgs_cons (pg_name (i := 15) sc_law_pairs_so.nd rfl (.inl rfl)) pgs_nil)))) (fun _ _ _ _ _ => pts_nil) (fun _ _ _ _ _ => (pe_tup (pa_cons (pv 15) (pa_cons (pv 14) pa_nil)))))) pa_nil))) (pa_cons (pv 2) pa_nil))))))
      (pss_cons (ps_if (pt_not (pt_val (pcall (ok_law_sm T 12) hr (pa_cons (pv 5) (pa_cons (pe_lst (pa_cons (pv 4) (pa_cons (pv 4) (pa_cons (pv 4) (pa_cons (pv 3) pa_nil))))) pa_nil)))))
      (pss_one (ps_ret pe_bl))
      pss_nil)
      (pss_cons (ps_set (i := 11) sc_law_pairs_so.nd rfl (.inr rfl) (pe_callTy call_list_of (by rfl) T.n_list PyProof.Rows.boot_list (pa_cons (pv 2) pa_nil)))
      (pss_cons (ps_for PassesOwn.never rfl (pi_range1 (by rfl) T.n_range (pa_cons (pcall (ok_law_draw T) hr (pa_cons (pv 0) (pa_cons pe_int pa_nil))) pa_nil)) (pg_name (i := 6) sc_law_pairs_so.nd rfl (.inl rfl))
      (pss_cons (ps_set (i := 7) sc_law_pairs_so.nd rfl (.inl rfl) (pcall (ok_law_odd T) hr (pa_cons (pv 0) (pa_cons (pe_lst (pa_cons (pe_tup (pa_cons pe_int (pa_cons (pe_op op_add (pv 1) pe_int) pa_nil))) (pa_cons (pe_tup (pa_cons pe_int (pa_cons pe_int pa_nil))) (pa_cons (pe_tup (pa_cons pe_int (pa_cons pe_bl pa_nil))) (pa_cons (pe_tup (pa_cons pe_int pa_nil)) (pa_cons (pe_tup (pa_cons pe_int (pa_cons pe_int (pa_cons pe_int pa_nil)))) (pa_cons (pe_lst (pa_cons pe_int (pa_cons pe_int pa_nil))) (pa_cons (pe_tup (pa_cons pe_int (pa_cons (pv 1) pa_nil))) (pa_cons (pe_tup (pa_cons pe_str (pa_cons pe_int pa_nil))) (pa_cons (pe_tup (pa_cons (pv 1) (pa_cons pe_int pa_nil))) (pa_cons (pe_tup (pa_cons pe_non (pa_cons pe_int pa_nil))) pa_nil))))))))))) pa_nil))))
      (pss_cons (ps_set (i := 8) sc_law_pairs_so.nd rfl (.inl rfl) (pcall (ok_law_draw T) hr (pa_cons (pv 0) (pa_cons (pe_op op_add (pe_callB (call_len_seqK (K := K) rfl) (by rfl) T.n_len PySem.boot_len (pa_cons (pv 11) pa_nil)) pe_int) pa_nil))))
      (pss_one (ps_set (i := 11) sc_law_pairs_so.nd rfl (.inr rfl) (pe_op op_cat (pe_op op_cat (pe_slice sl_list (pv 11) po_none (po_some (pv 8))) (pe_lst (pa_cons (pv 7) pa_nil))) (pe_slice sl_list (pv 11) (po_some (pv 8)) po_none)))))))
      (pss_cons (ps_setLc (i := 9) (own := [("_law_k", 6)]) (g := gName 6) rfl sc_law_pairs_so.nd rfl rfl (sw_true rfl rfl rfl (by decide +kernel)) (pi_range1 (by rfl) T.n_range (pa_cons (pe_callB (call_len_seqK (K := K) rfl) (by rfl) T.n_len PySem.boot_len (pa_cons (pv 11) pa_nil)) pa_nil)) (blkOk_by (own := [("_law_k", 6)]) (N := n_law_pairs_so) (sc := defScope s_law_pairs_so) (by decide +kernel)) (fun _ _ _ _ _ => (pg_name (i := 6) sc_law_pairs_so.nd rfl (.inl rfl))) (fun _ _ _ _ _ => (pts_one (PW.pt (pw_or (pt_not (pt_val (pe_callB (call_isiK (K := K) rfl) (by rfl) T.n_isinstance PyProof.Rows.boot_isinstance (pa_cons (pe_ix (ix_listK (K := K) rfl) (pv 11) (pv 6) (fun _ _ => rfl)) (pa_cons (pe_bltn (v := .ty "tuple") (by rfl) T.n_tuple (by decide +kernel) rfl) pa_nil))))) (pw_or (pt_cmpR op_ne (pe_callB (call_len_seqK (K := K) rfl) (by rfl) T.n_len PySem.boot_len (pa_cons (pe_ix (ix_listK (K := K) rfl) (pv 11) (pv 6) (fun _ _ => rfl)) pa_nil)) pe_int (nomark _)) (pw_or1 (pt_cmpR (op_neDK (K := K) rfl hr.units) (pe_lc (own := [("_law_x", 14)]) (g := gName 14) rfl sc_law_pairs_so.nd (pi_tupK (K := K) rfl (pe_ix (ix_listK (K := K) rfl) (pv 11) (pv 6) (fun _ _ => rfl))) (blkOk_by (own := [("_law_x", 14)]) (N := n_law_pairs_so) (sc := scB) (by decide +kernel)) (fun _ _ _ _ _ => (pg_name (i := 14) sc_law_pairs_so.nd rfl (.inl rfl))) (fun _ _ _ _ _ => (pts_one (pt_not (pt_val (pcall (ok_law_is_case T) hr (pa_cons (pv 14) (pa_cons (pv 1) pa_nil))))))) (fun _ _ _ _ _ => (pv 14))) (pe_lst pa_nil) (nomark _)))))))) (fun _ _ _ _ _ => (pv 6)))
      (Evl.pss_cut (ps_set (i := 4) sc_law_pairs_so.nd rfl (.inl rfl) (pe_ifExp (pt_truth (pv 9) (by intro _; rfl)) (pe_tup (pa_cons pe_str (pa_cons (pe_tup (pa_cons (pe_ix (ix_listK (K := K) rfl) (pv 9) pe_int (fun _ _ => rfl)) pa_nil)) pa_nil))) (pe_tup (pa_cons pe_str (pa_cons (pe_tup pa_nil) pa_nil)))))
      (pss_cons (ps_set (i := 12) sc_law_pairs_so.nd rfl (.inr rfl) (pcall (ok_law_of T) hr (pa_cons (pv 0) (pa_cons (pe_lst (pa_cons pe_non (pa_cons pe_bl (pa_cons pe_int (pa_cons pe_str (pa_cons pe_str (pa_cons (pcall (ok_law_circle T 12) hr (pa_cons (pe_tup (pa_cons pe_str (pa_cons pe_str pa_nil))) pa_nil)) pa_nil))))))) pa_nil))))
      (pss_cons (ps_set (i := 13) sc_law_pairs_so.nd rfl (.inr rfl) (pcall (ok_law_of T) hr (pa_cons (pv 0) (pa_cons (pe_lst (pa_cons pe_non (pa_cons pe_bl (pa_cons pe_bl (pa_cons pe_int (pa_cons pe_int (pa_cons (pe_un un_neg pe_int) (pa_cons pe_str (pa_cons (pe_tup (pa_cons pe_int pa_nil)) (pa_cons (pe_lst pa_nil) (pa_cons pe_int pa_nil))))))))))) pa_nil))))
      (pss_cons (ps_set (i := 10) sc_law_pairs_so.nd rfl (.inl rfl) (pe_lst (pa_cons (pe_lamh (T := TT AA) (kk := 10) (ok_law_why3 T) rfl TB rfl (TT_memB AA) (TT_unB T) hr (by decide) (lamS_by (by show lamSB (defScope s_law_pairs_so) _ = true; decide +kernel)) rfl (fun _ _ _ _ _ => rfl) (fun A outer s H E f c' hr => (pcallX (ok_parting_of T) hr (takes_of (E := E) rfl rfl rfl rfl) (pa_cons (pv 1) (pa_cons (pv 11) pa_nil))))) (pa_cons (pe_lamD (T := TT AA) (kk := 10) (a := "_law_a") (ki := _) (z := 0) (ok_law_why3 T) rfl TB rfl (TT_memB AA) (TT_unB T) hr (by decide) (lamN_by (by show lamNB n_law_pairs_so (defScope s_law_pairs_so) _ = true; decide +kernel)) rfl ⟨fun _ _ _ _ _ _ _ => ⟨_, rfl, rfl⟩, rfl⟩ (fun A outer s H E f c' hr => (pcallX (ok_parting_of T) hr (takes_of (E := E) rfl rfl rfl rfl) (pa_cons (pv 1) (pa_cons (pv 12) pa_nil))))) (pa_cons (pe_lamD (T := TT AA) (kk := 10) (a := "_law_b") (ki := _) (z := 0) (ok_law_why3 T) rfl TB rfl (TT_memB AA) (TT_unB T) hr (by decide) (lamN_by (by show lamNB n_law_pairs_so (defScope s_law_pairs_so) _ = true; decide +kernel)) rfl ⟨fun _ _ _ _ _ _ _ => ⟨_, rfl, rfl⟩, rfl⟩ (fun A outer s H E f c' hr => (pcallX (ok_parting_of T) hr (takes_of (E := E) rfl rfl rfl rfl) (pa_cons (pv 13) (pa_cons (pv 12) pa_nil))))) pa_nil)))))
      (pss_cons (ps_expr (pe_bm PySem.F.plainAttrs_list PySem.F.slot_list_append PySem.F.type_list_append mt_append (pv 10) (pa_cons (pe_lamh (T := TT AA) (kk := 10) (ok_law_why3 T) rfl TB rfl (TT_memB AA) (TT_unB T) hr (by decide) (lamS_by (by show lamSB (defScope s_law_pairs_so) _ = true; decide +kernel)) rfl (fun _ _ _ _ _ => rfl) (fun A outer s H E f c' hr => (pcallX (ok_parting_of T) hr (takes_of (E := E) rfl rfl rfl rfl) (pa_cons (pv 13) (pa_cons (pv 11) pa_nil))))) pa_nil)))
      (pss_one (ps_ret (pcall (ok_law_sm T 12) hr (pa_cons (pv 10) (pa_cons (pe_lst (pa_cons (pv 4) (pa_cons (pe_tup (pa_cons pe_str (pa_cons (pe_tup (pa_cons (pe_un un_neg pe_int) pa_nil)) pa_nil))) (pa_cons (pe_tup (pa_cons pe_str (pa_cons (pe_tup (pa_cons (pv 13) pa_nil)) pa_nil))) (pa_cons (pe_tup (pa_cons pe_str (pa_cons (pe_tup (pa_cons (pv 13) pa_nil)) pa_nil))) pa_nil))))) pa_nil)))))))))))))))))), ?_⟩
    -- couples
    refine ⟨_, rfl, _, rfl, _, rfl, b, 8, G, rfl, hA, by decide, by decide, fun c H1 c0 c1 hA1 => ?_⟩
    obtain ⟨c, rfl⟩ : ∃ k : Nat, c = (k : Int) := ⟨c.toNat, by omega⟩
    refine ⟨b, n, c, G, rfl, hA1, h1, by omega, by omega, fun l r ws G2 H2 hN hl e2 nr hr hPr hA2 => ?_⟩
    have hwl : ws.length ≤ 7 := by
      rw [hPr.1, hl]
      omega
    have hT2 := hT.ext e2
    -- kept
    refine ⟨_, rfl, r, ws, rfl, .inl (sq_of (hA2.ex _ _ hr)), fun kp nkp => ?_⟩
    have a3 := hA2.new (o := .lst ws) nkp
    have x3 := Ex.new (o := .lst ws) (hA2.nh nkp)
    have hr3 := x3 _ _ hr
    have hP3 := hPr.ex x3
    have hk3 : (upd G2 kp (.lst ws)) kp = some (.lst ws) := upd_same
    have hT3 := hT2.ext x3
    have n3 : ExtN G (upd G2 kp (.lst ws)) := ExtN.of (e2.trans x3)
    generalize upd G2 kp (.lst ws) = G3 at a3 hr3 hP3 hk3 hT3 n3
    generalize upd H2 kp (.lst ws) = H3 at a3 ⊢
    clear x3 hr hPr hT2 hA2 hA1 e2 nr nkp hA hT
    -- due
    refine ⟨_, rfl, n, rfl, by omega, fun al nal => ?_⟩
    have x4 := Ex.new (o := .tup (nvs (alone n))) nal
    refine ⟨_, rfl, n, al, r, alone n, ws, l, rfl, by omega, st_of upd_same, isP_alone n, sq_of (x4 _ _ (a3.ex _ _ hr3)), (hP3.ex (a3.ex.trans x4)).to, hN, fun du H5 e5 ndu hdu => ?_⟩
    have a5 := a3.mono (x4.trans e5)
    have hD : IsP n (mrgs (alone n) l) := isP_mrgs (isP_alone n) hN
    have hDl : (mrgs (alone n) l).length ≤ 90000 := by
      rw [hD.len]
      omega
    clear x4 e5 nal ndu
    -- told
    refine ⟨_, rfl, _, rfl, _, _, _, rfl, .int _, .inr (.inr ⟨n, r, ws, pairDs l, rfl, h1, by omega, rfl, .inl (a5.ex _ _ hr3), prh_reps (hP3.ex a5.ex), by omega, .inr ⟨pairD_in hN, l, rfl, fun r1 H6 e6 n6 g6 => ?_⟩⟩)⟩
    have a6 := a5.mono e6
    refine ⟨_, rfl, r, ws, rfl, sq_of (a6.ex _ _ hr3), fun rv nrv => ⟨rv, ws.reverse, rfl, .inl ⟨sq_of upd_same, fun tl ntl => ⟨_, rfl, rfl, rfl, ?_⟩⟩⟩⟩
    have x7 := (Ex.new (o := .lst ws.reverse) nrv).trans (Ex.new (o := .tup ws.reverse) ntl)
    have htl : (upd (upd H6 rv (.lst ws.reverse)) tl (.tup ws.reverse)) tl = some (.tup ws.reverse) := upd_same
    generalize upd (upd H6 rv (.lst ws.reverse)) tl (.tup ws.reverse) = H7 at x7 htl ⊢
    have a7 := a6.mono x7
    refine ⟨_, _, _, rfl, .int _, .inr (.inr ⟨n, tl, ws.reverse, pairDs l.reverse, rfl, h1, by omega, rfl, .inr htl, prh_reps (prh_rev (hP3.ex a7.ex)), by rw [List.length_reverse]; omega, .inr ⟨pairD_in (fun xy h => hN xy (List.mem_reverse.mp h)), l.reverse, rfl, fun r2 H8 e8 n8 g8 => ?_⟩⟩)⟩
    rw [mrgs_rev hN] at g8
    have a8 := a7.mono e8
    refine ⟨_, rfl, _, rfl, _, rfl, r, rfl, ⟨ws, sq_of (a8.ex _ _ hr3)⟩, fun E2 hE2 => ?_⟩
    refine lc_it (walk_list (xs := ws)) (fun i H' => Ex H8 H' ∧ ∃ us, H' E2 = some (.lst us) ∧ Prh H' us ((swp l).take i)) ⟨Ex.new hE2, [], upd_same, rfl, fun i v hv => by cases hv⟩ (fun i H' _ hp => sq_of (hp.1 _ _ (a8.ex _ _ hr3))) (fun i v H9 H10 hi hp hy => ?_) (fun H9 hp => ?_)
    · obtain ⟨rfl, hv⟩ := hy
      obtain ⟨e9, us, hus, hPu⟩ := hp
      obtain ⟨t, xy, rfl, hxy, ht⟩ := (hP3.ex (a8.ex.trans e9)).2 i v hv
      have hul : us.length = i := by
        rw [hPu.1, List.length_take]
        unfold swp
        rw [List.length_map, ← hP3.1]
        omega
      refine ⟨t, _, rfl, st_of ht, rfl, _, _, rfl, _, _, rfl, rfl, rfl, _, rfl, _, rfl, by show 2 ≤ sizeLine; decide, fun s ns => ?_⟩
      have xs := Ex.new (o := .tup [.int xy.2, .int xy.1]) ns
      refine ⟨us, xs _ _ hus, sz_lt (by omega), (e9.trans xs).mut hE2, us ++ [.ref s], upd_same, ?_⟩
      have hsw : (swp l)[i]? = some (xy.2, xy.1) := by
        unfold swp
        rw [List.getElem?_map, hxy]
        rfl
      rw [List.take_add_one, hsw]
      exact ((hPu.ex xs).snoc (t := s) (xy := (xy.2, xy.1)) upd_same).put (xs _ _ hus)
    obtain ⟨e9, us, hus, hPu⟩ := hp
    have hswl : (swp l).length = ws.length := by
      unfold swp
      rw [List.length_map, hP3.1]
    rw [List.take_of_length_le (by rw [hswl]; exact Nat.le_refl _)] at hPu
    have hul : us.length = ws.length := by rw [hPu.1, hswl]
    have a9 := a8.mono e9
    refine ⟨r, E2, ws, us, rfl, rfl, a9.ex _ _ hr3, hus, sz_of (by omega), fun pc npc => ?_⟩
    have x10 := Ex.new (o := .lst (ws ++ us)) npc
    refine ⟨_, _, _, rfl, .int _, .inr (.inr ⟨n, pc, ws ++ us, pairDs (l ++ swp l), rfl, h1, by omega, rfl, .inl upd_same, prh_reps (prh_app (hP3.ex (a9.ex.trans x10)) (hPu.ex x10)), by rw [List.length_append]; omega, .inr ⟨pairD_in (swp_in hN), l ++ swp l, rfl, fun r3 H11 e11 n11 g11 => ⟨_, rfl, by show 4 ≤ sizeLine; decide, fun tp ntp => ?_⟩⟩⟩)⟩
    rw [mrgs_swp hN] at g11
    have x12 := Ex.new (o := .lst [.ref r1, .ref r2, .ref r3, .ref r]) ntp
    have y11 := x10.trans (e11.trans x12)
    have y8 := e9.trans y11
    have y6 := x7.trans (e8.trans y8)
    have y5 := e6.trans y6
    have a12 := a5.mono y5
    refine ⟨_, rfl, _, rfl, _, rfl, _, rfl, _, rfl, by show 4 ≤ sizeLine; decide, fun tq ntq => ?_⟩
    have x13 := Ex.new (o := .lst [.ref du, .ref du, .ref du, .ref kp]) ntq
    have hdu2 := x13 _ _ (y5 _ _ hdu)
    refine ⟨_, _, rfl, Sms.lst (.cons (nvs_sm (x13 _ _ (y6 _ _ g6)) hdu2 hDl) (.cons (nvs_sm (x13 _ _ (y8 _ _ g8)) hdu2 hDl) (.cons (nvs_sm (x13 _ _ (x12 _ _ g11)) hdu2 hDl) (.cons ((hP3.ex (a12.ex.trans x13)).sm (x13 _ _ (a12.ex _ _ hr3)) (x13 _ _ (a12.ex _ _ hk3)) (by omega)) .nil)))) (x13 _ _ upd_same) upd_same (by show 4 ≤ 90000; decide), fun H14 e14 => ⟨_, rfl, iteF ?_⟩⟩
    have a14 := a12.mono (x13.trans e14)
    clear x13 e14 hdu2 a12 y5 y6 y8 y11 x12 g11 g8 g6 a9 a8 a7 a6 a5 e9 e8 e6 e11 x10 x7 n11 n8 n6 hPu hus hul hswl htl hE2 nrv ntl npc ntp ntq
    -- bad
    refine ⟨_, rfl, r, ws, rfl, .inl (sq_of (a14.ex _ _ hr3)), fun bd nbd => ?_⟩
    have a15 := a14.new (o := .lst ws) nbd
    have x15 := Ex.new (o := .lst ws) (a14.nh nbd)
    have hbd : (upd G3 bd (.lst ws)) bd = some (.lst ws) := upd_same
    have hO : Oks (upd G3 bd (.lst ws)) ws := prh_oks (hP3.ex x15)
    have hT4 := hT3.ext x15
    have n4 := n3.trans (ExtN.of x15)
    generalize upd G3 bd (.lst ws) = G4 at a15 hbd hO hT4 n4
    generalize upd H14 bd (.lst ws) = H15 at a15 ⊢
    clear x15 nbd a14 hr3 hP3 hk3 hT3 n3 a3
    refine ⟨_, rfl, b, 4, G4, rfl, a15, by decide, by decide, fun cnt H5 d0 d1 hA5 => ⟨_, rfl, by omega, by omega, ?_⟩⟩
    refine for_it walk_range (fun i σ H' => ∃ (y6 y7 y8 : Option V) (D : Addr) (us : List V) (G5 : Hp), σ = [some (.ref b), some (.int n), some (.ref r), some (.ref kp), some (.ref du), some (.ref tp), y6, y7, y8, none, none, some (.ref D), none, none, none, none] ∧ At b G5 H' ∧ Ex G4 G5 ∧ G5 D = some (.lst us) ∧ Oks G5 us ∧ us.length ≤ 7 + i) ⟨_, _, _, bd, ws, G4, rfl, hA5, Ex.refl _, hbd, hO, hwl⟩ (fun _ _ _ _ _ => trivial) (fun i v σ H6 H7 hi hp hy => ?_) (fun σ H6 hp => ?_)
    · obtain ⟨y6, y7, y8, D, us, G5, rfl, hA6, e5, hD5, hO5, hul⟩ := hp
      obtain ⟨rfl, rfl⟩ := hy
      refine ⟨_, rfl, _, rfl, _, 1, rfl, rfl, by show 2 ≤ sizeLine; decide, fun p1 m1 => ⟨by show 2 ≤ sizeLine; decide, fun p2 m2 => ⟨by show 2 ≤ sizeLine; decide, fun p3 m3 => ⟨by show 1 ≤ sizeLine; decide, fun p4 m4 => ⟨by show 3 ≤ sizeLine; decide, fun p5 m5 => ⟨by show 2 ≤ sizeLine; decide, fun p6 m6 => ⟨_, rfl, by show 2 ≤ sizeLine; decide, fun p7 m7 => ⟨by show 2 ≤ sizeLine; decide, fun p8 m8 => ⟨_, rfl, by show 2 ≤ sizeLine; decide, fun p9 m9 => ⟨by show 2 ≤ sizeLine; decide, fun p10 m10 => ⟨by show 10 ≤ sizeLine; decide, fun pl npl => ?_⟩⟩⟩⟩⟩⟩⟩⟩⟩⟩⟩
      have a21 := hA6.new (o := .tup [.int 1, .int ((n : Int) + 1)]) m1
      have x1 := Ex.new (o := .tup [.int 1, .int ((n : Int) + 1)]) (hA6.nh m1)
      have a22 := a21.new (o := .tup [.int 0, .int 1]) m2
      have x2 := Ex.new (o := .tup [.int 0, .int 1]) (a21.nh m2)
      have a23 := a22.new (o := .tup [.int 1, .bl true]) m3
      have x3 := Ex.new (o := .tup [.int 1, .bl true]) (a22.nh m3)
      have a24 := a23.new (o := .tup [.int 1]) m4
      have x4 := Ex.new (o := .tup [.int 1]) (a23.nh m4)
      have a25 := a24.new (o := .tup [.int 1, .int 1, .int 1]) m5
      have x5 := Ex.new (o := .tup [.int 1, .int 1, .int 1]) (a24.nh m5)
      have a26 := a25.new (o := .lst [.int 1, .int 1]) m6
      have x6 := Ex.new (o := .lst [.int 1, .int 1]) (a25.nh m6)
      have a27 := a26.new (o := .tup [.int 1, .int n]) m7
      have x7 := Ex.new (o := .tup [.int 1, .int n]) (a26.nh m7)
      have a28 := a27.new (o := .tup [.str "1", .int 1]) m8
      have x8 := Ex.new (o := .tup [.str "1", .int 1]) (a27.nh m8)
      have a29 := a28.new (o := .tup [.int n, .int 1]) m9
      have x9 := Ex.new (o := .tup [.int n, .int 1]) (a28.nh m9)
      have a30 := a29.new (o := .tup [.non, .int 1]) m10
      have x10 := Ex.new (o := .tup [.non, .int 1]) (a29.nh m10)
      have b1 := a30.new (o := .lst [.ref p1, .ref p2, .ref p3, .ref p4, .ref p5, .ref p6, .ref p7, .ref p8, .ref p9, .ref p10]) npl
      have y10 := Ex.new (o := .lst [.ref p1, .ref p2, .ref p3, .ref p4, .ref p5, .ref p6, .ref p7, .ref p8, .ref p9, .ref p10]) (a30.nh npl)
      have y9 := x10.trans y10
      have y8 := x9.trans y9
      have y7 := x8.trans y8
      have y6 := x7.trans y7
      have y5 := x6.trans y6
      have y4 := x5.trans y5
      have y3 := x4.trans y4
      have y2 := x3.trans y3
      have y1 := x2.trans y2
      have y0 := x1.trans y1
      refine ⟨b, pl, _, _, rfl, b1, upd_same, by show 10 ≤ 20; decide, fun x hx => ?_, fun v d G6 H8 e6 hA8 hv ho => ?_⟩
      · simp only [List.mem_cons, List.not_mem_nil, or_false] at hx
        rcases hx with rfl | rfl | rfl | rfl | rfl | rfl | rfl | rfl | rfl | rfl
        · exact ⟨_, .tup (y1 _ _ upd_same) (.cons (.int _) (.cons (.int _) .nil)), okV_pair _ _⟩
        · exact ⟨_, .tup (y2 _ _ upd_same) (.cons (.int _) (.cons (.int _) .nil)), by decide +kernel, by decide +kernel, by decide +kernel⟩
        · exact ⟨_, .tup (y3 _ _ upd_same) (.cons (.int _) (.cons (.bl _) .nil)), by decide +kernel, by decide +kernel, by decide +kernel⟩
        · exact ⟨_, .tup (y4 _ _ upd_same) (.cons (.int _) .nil), by decide +kernel, by decide +kernel, by decide +kernel⟩
        · exact ⟨_, .tup (y5 _ _ upd_same) (.cons (.int _) (.cons (.int _) (.cons (.int _) .nil))), by decide +kernel, by decide +kernel, by decide +kernel⟩
        · exact ⟨_, .lst (y6 _ _ upd_same) (.cons (.int _) (.cons (.int _) .nil)), by decide +kernel, by decide +kernel, by decide +kernel⟩
        · exact ⟨_, .tup (y7 _ _ upd_same) (.cons (.int _) (.cons (.int _) .nil)), okV_pair _ _⟩
        · exact ⟨_, .tup (y8 _ _ upd_same) (.cons (.str _) (.cons (.int _) .nil)), by decide +kernel, by decide +kernel, by decide +kernel⟩
        · exact ⟨_, .tup (y9 _ _ upd_same) (.cons (.int _) (.cons (.int _) .nil)), okV_pair _ _⟩
        · exact ⟨_, .tup (y10 _ _ upd_same) (.cons (.non) (.cons (.int _) .nil)), by decide +kernel, by decide +kernel, by decide +kernel⟩
      have e56 := y0.trans e6
      have hD6 := e56 _ _ hD5
      have hO6 := hO5.mono e56
      clear y0 y1 y2 y3 y4 y5 y6 y7 y8 y9 y10 x1 x2 x3 x4 x5 x6 x7 x8 x9 x10 a21 a22 a23 a24 a25 a26 a27 a28 a29 a30 b1
      refine ⟨_, rfl, _, rfl, D, us, rfl, .inl (sq_of (hA8.ex _ _ hD6)), _, 1, rfl, rfl, b, _, G6, rfl, hA8, by omega, by omega, fun sp H9 s0 s1 hA9 => ?_⟩
      -- the value put in
      refine ⟨_, rfl, _, rfl, _, rfl, D, us, rfl, sq_of (hA9.ex _ _ hD6), fun q1 nq1 => ⟨_, rfl, by show 1 ≤ sizeLine; decide, fun q2 nq2 => ?_⟩⟩
      have c1 := hA9.new (o := .lst (cutV us none (some sp))) nq1
      have z1 := Ex.new (o := .lst (cutV us none (some sp))) (hA9.nh nq1)
      have c2 := c1.new (o := .lst [v]) nq2
      have z2 := Ex.new (o := .lst [v]) (c1.nh nq2)
      have l1 := cutV_length us none (some sp)
      have l2 := cutV_length us (some sp) none
      have hi4 : i < 4 := by omega
      refine ⟨q1, q2, _, _, rfl, rfl, c2.ex _ _ (z2 _ _ upd_same), upd_same, sz_of (by show _ + 1 ≤ 100000; omega), fun q3 nq3 => ?_⟩
      have c3 := c2.new (o := .lst (cutV us none (some sp) ++ [v])) nq3
      have z3 := Ex.new (o := .lst (cutV us none (some sp) ++ [v])) (c2.nh nq3)
      have z13 := z1.trans (z2.trans z3)
      refine ⟨_, rfl, _, rfl, _, rfl, D, us, rfl, sq_of (c3.ex _ _ (z13 _ _ hD6)), fun q4 nq4 => ?_⟩
      have c4 := c3.new (o := .lst (cutV us (some sp) none)) nq4
      have z4 := Ex.new (o := .lst (cutV us (some sp) none)) (c3.nh nq4)
      refine ⟨q3, q4, _, _, rfl, rfl, c4.ex _ _ (z4 _ _ upd_same), upd_same, sz_of (by rw [List.length_append]; show (_ + 1) + _ ≤ 100000; omega), fun q5 nq5 => ?_⟩
      have c5 := c4.new (o := .lst ((cutV us none (some sp) ++ [v]) ++ cutV us (some sp) none)) nq5
      have z5 := Ex.new (o := .lst ((cutV us none (some sp) ++ [v]) ++ cutV us (some sp) none)) (c4.nh nq5)
      have z15 := z13.trans (z4.trans z5)
      refine ⟨_, _, _, q5, _, _, rfl, c5, e5.trans (e56.trans z15), upd_same, fun x hx => ?_, ?_⟩
      · have old : x ∈ us → ∃ d, Rep _ x d ∧ okV d := fun h => (hO6.mono z15) x h
        rcases List.mem_append.mp hx with hx | hx
        · rcases List.mem_append.mp hx with hx | hx
          · exact old (cut_mem hx)
          · rw [List.mem_singleton.mp hx]
            exact ⟨d, hv.mono z15, ho⟩
        · exact old (cut_mem hx)
      · rw [List.length_append, List.length_append]
        show (_ + 1) + _ ≤ _
        have l3 : (cutV us none (some sp)).length + (cutV us (some sp) none).length ≤ us.length := by
          obtain ⟨j, rfl⟩ : ∃ j : Nat, sp = (j : Int) := ⟨sp.toNat, by omega⟩
          unfold cutV
          rw [HT.sIx_none, HT.sIx_nat, HT.sIx_none, HT.sIx_nat, List.length_take, List.length_take, List.length_drop, List.length_drop]
          omega
        omega
    obtain ⟨y6, y7, y8, D, us, G5, rfl, hA6, e5, hD5, hO5, hul⟩ := hp
    have hul : us.length ≤ 11 := by omega
    have hT5 := hT4.ext e5
    have n5 := n4.trans (ExtN.of e5)
    clear hbd hO hT4 n4 a15 hA5 e5
    -- wrong
    obtain ⟨ds, hR, hoks⟩ := hO5.reps
    have hdl := hR.length
    refine ⟨_, rfl, D, us, rfl, .inl (sq_of (hA6.ex _ _ hD5)), _, rfl, by omega, by omega, fun W9 nW9 => ?_⟩
    rw [show ((us.length : Nat) : Int).toNat = us.length by omega]
    refine lc_it walk_range (fun i H' => Ex H6 H' ∧ H' W9 = some (.lst ((badN n ds i).map fun j => V.int (j : Nat)))) ⟨Ex.new nW9, upd_same⟩ (fun _ _ _ _ => trivial) (fun i v H7 H8 hi hp hy => ?_) (fun H7 hp => ?_)
    · obtain ⟨e7, h7⟩ := hp
      obtain ⟨rfl, rfl⟩ := hy
      have z0 : (0 : Int) + (i : Int) = (i : Int) := Int.zero_add _
      have hx : us[i]? = some us[i] := List.getElem?_eq_getElem hi
      obtain ⟨d, hd, hv⟩ := hR.get hx
      generalize us[i] = x at hx hv
      have hat : atI us (0 + (i : Int)) = some x := by
        rw [z0]
        exact atI_nat hx
      have hDd : H8 D = some (.lst us) := e7 _ _ (hA6.ex _ _ hD5)
      have hv : Rep H8 x d := hv.mono (hA6.ex.trans e7)
      have yes : pairD n d = false → ∀ H', Ex H8 H' → ∃ acc, H' W9 = some (.lst acc) ∧ acc.length < sizeLine ∧ (Ex H6 (upd H' W9 (.lst (acc ++ [.int (0 + (i : Int))]))) ∧ (upd H' W9 (.lst (acc ++ [.int (0 + (i : Int))]))) W9 = some (.lst ((badN n ds (i + 1)).map fun j => V.int (j : Nat)))) := fun hp H' e => by
        refine ⟨_, e _ _ h7, ?_, (e7.trans e).mut nW9, ?_⟩
        · rw [List.length_map]
          have := badN_len (n := n) (ds := ds) (i := i)
          exact sz_lt (by omega)
        · rw [upd_same, badN_y hd hp, List.map_append, z0]
          rfl
      have no : pairD n d = true → ∀ H', Ex H8 H' → Ex H6 H' ∧ H' W9 = some (.lst ((badN n ds (i + 1)).map fun j => V.int (j : Nat))) := fun hp H' e => ⟨e7.trans e, by
        rw [badN_n hd hp]
        exact e _ _ h7⟩
      have ho := hoks d (List.mem_of_getElem? hd)
      refine ⟨rfl, ?_⟩
      cases d with
      | tuple ds2 =>
        cases hv with
        | @tup a xs _ hxa hRa =>
        have hlen := hRa.length
        refine ⟨_, rfl, _, rfl, D, us, _, .ref a, rfl, rfl, sq_of hDd, hat, .ref a, .ty "tuple", _, _, true, rfl, .ty _, (Rep.tup hxa hRa).ty, kit_ty (a := "tuple") (by decide +kernel), _, rfl, iteF ?_⟩
        refine ⟨_, rfl, _, rfl, D, us, _, .ref a, rfl, rfl, sq_of hDd, hat, a, xs, rfl, .inr (st_of hxa), rfl, _, rfl, ite2 (fun h0 => ?_) (fun h0 => ?_)⟩
        · refine iteT ⟨_, rfl, yes ?_ H8 (Ex.refl _)⟩
          have h2 : ds2.length ≠ 2 := fun z => by
            rw [hlen, z] at h0
            cases h0
          match ds2, h2 with
          | [], _ => rfl
          | [_], _ => rfl
          | [_, _], h => exact absurd rfl h
          | _ :: _ :: _ :: _, _ => rfl
        · have h2 : xs.length = 2 := by
            have h3 : decide (V.int (xs.length : Int) = V.int 2) = true := by
              cases e : decide (V.int (xs.length : Int) = V.int 2) with
              | true => rfl
              | false => rw [e] at h0; exact absurd rfl h0
            have h4 := of_decide_eq_true h3
            injection h4 with h4
            omega
          cases hRa with
          | nil => cases h2
          | @cons v1 vs d1 ds2 r1 r2 =>
            cases r2 with
            | nil => cases h2
            | @cons v2 vs2 d2 ds3 r2 r3 =>
              cases r3 with
              | cons r3 r4 => simp at h2
              | nil =>
                have o1 : okV d1 := okV.item (.inl ho) List.mem_cons_self
                have o2 : okV d2 := okV.item (.inl ho) (List.mem_cons_of_mem _ List.mem_cons_self)
                have hpd : pairD n (.tuple [d1, d2]) = (numD d1 1 n && numD d2 1 n) := rfl
                rw [hpd] at yes no
                refine ⟨_, rfl, _, rfl, D, us, _, .ref a, rfl, rfl, sq_of hDd, hat, a, rfl, ⟨_, st_of hxa⟩, fun E3 hE3 => ?_⟩
                generalize hb1 : numD d1 1 n = b1 at yes no
                generalize hb2 : numD d2 1 n = b2 at yes no
                refine lc_it (walk_tup (xs := [v1, v2])) (fun k H' => Ex H8 H' ∧ H' E3 = some (.lst (match k with
                  | 0 => []
                  | 1 => if b1 then [] else [v1]
                  | _ => (if b1 then [] else [v1]) ++ (if b2 then [] else [v2])))) ⟨Ex.new hE3, upd_same⟩ (fun _ _ _ hp => ex_t hp.1 (st_of hxa)) (fun k v H9 H10 hk hp hy => ?_) (fun H9 hp => ?_)
                · obtain ⟨rfl, hv⟩ := hy
                  obtain ⟨e9, h9⟩ := hp
                  match k, hk, hv, h9 with
                  | 0, _, hv, h9 =>
                    cases hv
                    refine ⟨rfl, _, rfl, _, rfl, v1, d1, _, rfl, r1.mono e9, _, rfl, ?_⟩
                    rw [hb1]
                    cases b1 with
                    | true => exact iteF ⟨e9, h9⟩
                    | false => exact iteT ⟨_, rfl, _, h9, by show 0 < sizeLine; decide, e9.mut hE3, upd_same⟩
                  | 1, _, hv, h9 =>
                    cases hv
                    refine ⟨rfl, _, rfl, _, rfl, v2, d2, _, rfl, r2.mono e9, _, rfl, ?_⟩
                    rw [hb2]
                    cases b2 with
                    | true => exact iteF ⟨e9, by
                        show H10 E3 = some (.lst ((if b1 then [] else [v1]) ++ []))
                        rw [List.append_nil]
                        exact h9⟩
                    | false => exact iteT ⟨_, rfl, _, h9, (by cases b1; (show 1 < sizeLine; decide); (show 0 < sizeLine; decide)), e9.mut hE3, upd_same⟩
                · obtain ⟨e9, h9⟩ := hp
                  have h9 : H9 E3 = some (.lst ((if b1 then [] else [v1]) ++ (if b2 then [] else [v2]))) := h9
                  refine ⟨by show 0 ≤ sizeLine; decide, fun pe npe => ?_⟩
                  have xe := Ex.new (o := .lst []) npe
                  have e8e := e9.trans xe
                  have h9e := xe _ _ h9
                  have p1 := (r1.mono e8e).dp (K := K)
                  have p2 := (r2.mono e8e).dp (K := K)
                  have s1 : PyData.canLay0 d1 = true ∧ d1.depth ≤ 60 := ⟨o1.2.2, by have := o1.1; omega⟩
                  have s2 : PyData.canLay0 d2 = true ∧ d2.depth ≤ 60 := ⟨o2.2.2, by have := o2.1; omega⟩
                  cases b1 with
                  | true =>
                    cases b2 with
                    | true =>
                      refine ⟨.list [], .list [], .lst (sq_of h9e) .nil, .lst (sq_of upd_same) .nil, by decide +kernel, by decide +kernel, _, rfl, iteF ?_⟩
                      exact no rfl _ e8e
                    | false =>
                      refine ⟨.list [d2], .list [], .lst (sq_of h9e) (.cons p2 .nil), .lst (sq_of upd_same) .nil, shaped_list (fun d hd => by rw [List.mem_singleton.mp hd]; exact s2), by decide +kernel, _, rfl, iteT ⟨_, rfl, ?_⟩⟩
                      exact yes rfl _ e8e
                  | false =>
                    cases b2 with
                    | true =>
                      refine ⟨.list [d1], .list [], .lst (sq_of h9e) (.cons p1 .nil), .lst (sq_of upd_same) .nil, shaped_list (fun d hd => by rw [List.mem_singleton.mp hd]; exact s1), by decide +kernel, _, rfl, iteT ⟨_, rfl, ?_⟩⟩
                      exact yes rfl _ e8e
                    | false =>
                      refine ⟨.list [d1, d2], .list [], .lst (sq_of h9e) (.cons p1 (.cons p2 .nil)), .lst (sq_of upd_same) .nil, shaped_list (fun d hd => ?_), by decide +kernel, _, rfl, iteT ⟨_, rfl, ?_⟩⟩
                      · rcases List.mem_cons.mp hd with rfl | hd
                        · exact s1
                        · rw [List.mem_singleton.mp hd]
                          exact s2
                      · exact yes rfl _ e8e
      | none => exact ⟨_, rfl, _, rfl, D, us, _, x, rfl, rfl, sq_of hDd, hat, x, .ty "tuple", _, _, false, rfl, .ty _, hv.ty, kit_ty (a := "NoneType") (by decide +kernel), _, rfl, iteT (iteT ⟨_, rfl, yes rfl H8 (Ex.refl _)⟩)⟩
      | bool z => exact ⟨_, rfl, _, rfl, D, us, _, x, rfl, rfl, sq_of hDd, hat, x, .ty "tuple", _, _, false, rfl, .ty _, hv.ty, kit_ty (a := "bool") (by decide +kernel), _, rfl, iteT (iteT ⟨_, rfl, yes rfl H8 (Ex.refl _)⟩)⟩
      | int z => exact ⟨_, rfl, _, rfl, D, us, _, x, rfl, rfl, sq_of hDd, hat, x, .ty "tuple", _, _, false, rfl, .ty _, hv.ty, kit_ty (a := "int") (by decide +kernel), _, rfl, iteT (iteT ⟨_, rfl, yes rfl H8 (Ex.refl _)⟩)⟩
      | str z => exact ⟨_, rfl, _, rfl, D, us, _, x, rfl, rfl, sq_of hDd, hat, x, .ty "tuple", _, _, false, rfl, .ty _, hv.ty, kit_ty (a := "str") (by decide +kernel), _, rfl, iteT (iteT ⟨_, rfl, yes rfl H8 (Ex.refl _)⟩)⟩
      | list z => exact ⟨_, rfl, _, rfl, D, us, _, x, rfl, rfl, sq_of hDd, hat, x, .ty "tuple", _, _, false, rfl, .ty _, hv.ty, kit_ty (a := "list") (by decide +kernel), _, rfl, iteT (iteT ⟨_, rfl, yes rfl H8 (Ex.refl _)⟩)⟩
      | dict z => exact ⟨_, rfl, _, rfl, D, us, _, x, rfl, rfl, sq_of hDd, hat, x, .ty "tuple", _, _, false, rfl, .ty _, hv.ty, kit_ty (a := "dict") (by decide +kernel), _, rfl, iteT (iteT ⟨_, rfl, yes rfl H8 (Ex.refl _)⟩)⟩
    obtain ⟨e7, h7⟩ := hp
    rw [hdl] at h7
    have a7 := hA6.mono e7
    -- what is due
    obtain ⟨rr, hrr⟩ : ∃ rr : Option (Str × V), rr = (match badN n ds ds.length with
      | [] => none
      | k :: _ => some ("InvalidTie", V.int (k : Nat))) := ⟨_, rfl⟩
    refine ⟨fun σ' H' => ∃ (dd : Addr) (G6 : Hp), σ' = [some (.ref b), some (.int n), some (.ref r), some (.ref kp), some (.ref dd), some (.ref tp), y6, y7, y8, some (.ref W9), none, some (.ref D), none, none, none, none] ∧ At b G6 H' ∧ Ex G5 G6 ∧ Due2 G6 dd rr, ?_, fun σ' H' hm => ?_⟩
    · cases hb : badN n ds ds.length with
      | nil =>
        rw [hb] at h7 hrr
        refine ⟨_, rfl, false, .inl ⟨_, sq_of h7, rfl⟩, iteF ⟨by show 0 ≤ sizeLine; decide, fun q1 nq1 => ⟨by show 2 ≤ sizeLine; decide, fun q2 nq2 => ?_⟩⟩⟩
        have c1 := a7.new (o := .tup []) nq1
        have z1 := Ex.new (o := .tup []) (a7.nh nq1)
        have c2 := c1.new (o := .tup [.str "", .ref q1]) nq2
        have z2 := Ex.new (o := .tup [.str "", .ref q1]) (c1.nh nq2)
        refine ⟨q2, _, rfl, c2, z1.trans z2, ?_⟩
        rw [hrr]
        exact ⟨q1, upd_same, z2 _ _ upd_same⟩
      | cons k0 br =>
        rw [hb] at h7 hrr
        refine ⟨_, rfl, true, .inl ⟨_, sq_of h7, rfl⟩, iteT ⟨_, rfl, W9, _, 0, _, rfl, rfl, sq_of h7, at_of (j := 0) rfl rfl, by show 1 ≤ sizeLine; decide, fun q1 nq1 => ⟨by show 2 ≤ sizeLine; decide, fun q2 nq2 => ?_⟩⟩⟩
        have c1 := a7.new (o := .tup [.int (k0 : Nat)]) nq1
        have z1 := Ex.new (o := .tup [.int (k0 : Nat)]) (a7.nh nq1)
        have c2 := c1.new (o := .tup [.str "InvalidTie", .ref q1]) nq2
        have z2 := Ex.new (o := .tup [.str "InvalidTie", .ref q1]) (c1.nh nq2)
        refine ⟨q2, _, rfl, c2, z1.trans z2, ?_⟩
        rw [hrr]
        exact ⟨q1, upd_same, z2 _ _ upd_same⟩
    obtain ⟨dd, G6, rfl, a8, e6, D6⟩ := hm
    have hD6 := e6 _ _ hD5
    have hR6 := Reps.mono e6 hR
    have hT6 := hT5.ext e6
    have n6 := n5.trans (ExtN.of e6)
    clear hA6 hD5 hO5 hul hT5 n5 hR nW9 e7 h7 a7 e6
    -- no list
    refine ⟨_, rfl, by show 2 ≤ sizeLine; decide, fun tn ntn => ⟨.ref tn, .eye "a", rfl, .tup upd_same (.cons (.str _) (.cons (.str _) .nil)), by show 0 < 12; decide, by show 0 ≤ 20; decide, by show 1 ≤ 60; decide, (⟨by decide +kernel, by decide +kernel, by decide +kernel⟩ : nm "a"), fun cv H9 e9 hcv => ⟨by show 6 ≤ sizeLine; decide, fun pl npl => ?_⟩⟩⟩
    have x1 := (Ex.new (o := .tup [.str "eye", .str "a"]) ntn).trans e9
    have x2 := x1.trans (Ex.new (o := .lst [.non, .bl true, .int 7, .str "", .str "ab", cv]) npl)
    obtain ⟨G7, a9, e7, k1, k2⟩ := a8.grow x2
    have gpl := k2 _ _ upd_same (.inl (fresh_back x1 npl))
    refine ⟨b, .ref pl, G7, _, rfl, a9, .inl ⟨pl, rfl, sq_of gpl⟩, by show 0 < 6; decide, by show 6 < 1073741824; decide, fun nl H10 hnl hA10 => ?_⟩
    have hno : ∃ t, TyX K G7 nl t ∧ PySem.W.kitAny K t [.type "list", .type "tuple"] = some false := by
      simp only [List.mem_cons, List.not_mem_nil, or_false] at hnl
      rcases hnl with rfl | rfl | rfl | rfl | rfl | rfl
      · exact ⟨_, Rep.non.ty, kit_seq K .none⟩
      · exact ⟨_, (Rep.bl true).ty, kit_seq K (.bool true)⟩
      · exact ⟨_, (Rep.int 7).ty, kit_seq K (.int 7)⟩
      · exact ⟨_, (Rep.str _).ty, kit_seq K (.str "")⟩
      · exact ⟨_, (Rep.str _).ty, kit_seq K (.str "ab")⟩
      · obtain ⟨pc, dx, lc, vc, rfl, hpc, _, _⟩ := hcv.at_
        exact ⟨_, .base (.ins (k1 _ _ (Ex.new npl _ _ hpc) (fun _ => nofun)) T.c_Circle T.y_Circle.ty1 T.y_Circle.ty2 T.y_Circle.ty3 T.y_Circle.ty4), kitAny_cons (b := false) T.y_Circle.k_list (fun _ => kitAny_cons (b := false) T.y_Circle.k_tuple (fun _ => kitAny_nil) (fun z => nomatch z)) (fun z => nomatch z)⟩
    obtain ⟨nt, hnt, hkt⟩ := hno
    have hD7 := e7 _ _ hD6
    have hR7 := Reps.mono e7 hR6
    have hT7 := hT6.ext e7
    have D7 : Due2 G7 dd rr := D6.exN (ExtN.of e7)
    have n7 := n6.trans (ExtN.of e7)
    clear x1 x2 k1 k2 gpl a9 a8 hcv e9 hnl e7 hD6 hR6 hT6 D6 n6 ntn npl
    -- no size
    refine ⟨_, rfl, 1, rfl, by show 1 ≤ sizeLine; decide, fun t1 m1 => ⟨by show 0 ≤ sizeLine; decide, fun t2 m2 => ⟨by show 10 ≤ sizeLine; decide, fun pl npl => ?_⟩⟩⟩
    have b1 := hA10.new (o := .tup [.int 1]) m1
    have x1 := Ex.new (o := .tup [.int 1]) (hA10.nh m1)
    have b2 := b1.new (o := .lst []) m2
    have x2 := Ex.new (o := .lst []) (b1.nh m2)
    have b3 := b2.new (o := .lst [.non, .bl true, .bl false, .int 0, .int 2401, .int (-1), .str "1", .ref t1, .ref t2, .int 999999999]) npl
    have x3 := Ex.new (o := .lst [.non, .bl true, .bl false, .int 0, .int 2401, .int (-1), .str "1", .ref t1, .ref t2, .int 999999999]) (b2.nh npl)
    refine ⟨b, .ref pl, _, _, rfl, b3, .inl ⟨pl, rfl, sq_of upd_same⟩, by show 0 < 10; decide, by show 10 < 1073741824; decide, fun nz H11 hnz hA11 => ?_⟩
    have x23 := x2.trans x3
    have x13 := x1.trans x23
    have hns : ∃ d, Rep (upd (upd (upd G7 t1 (.tup [.int 1])) t2 (.lst [])) pl (.lst [.non, .bl true, .bl false, .int 0, .int 2401, .int (-1), .str "1", .ref t1, .ref t2, .int 999999999])) nz d ∧ okV d ∧ numD d 1 2400 = false := by
      simp only [List.mem_cons, List.not_mem_nil, or_false] at hnz
      rcases hnz with rfl | rfl | rfl | rfl | rfl | rfl | rfl | rfl | rfl | rfl
      · exact ⟨_, .non, ⟨by decide +kernel, by decide +kernel, by decide +kernel⟩, rfl⟩
      · exact ⟨_, .bl true, ⟨by decide +kernel, by decide +kernel, by decide +kernel⟩, rfl⟩
      · exact ⟨_, .bl false, ⟨by decide +kernel, by decide +kernel, by decide +kernel⟩, rfl⟩
      · exact ⟨_, .int 0, ⟨by decide +kernel, by decide +kernel, by decide +kernel⟩, by decide +kernel⟩
      · exact ⟨_, .int 2401, ⟨by decide +kernel, by decide +kernel, by decide +kernel⟩, by decide +kernel⟩
      · exact ⟨_, .int (-1), ⟨by decide +kernel, by decide +kernel, by decide +kernel⟩, by decide +kernel⟩
      · exact ⟨_, .str _, ⟨by decide +kernel, by decide +kernel, by decide +kernel⟩, rfl⟩
      · exact ⟨_, .tup (x23 _ _ upd_same) (.cons (.int _) .nil), ⟨by decide +kernel, by decide +kernel, by decide +kernel⟩, rfl⟩
      · exact ⟨_, .lst (x3 _ _ upd_same) .nil, ⟨by decide +kernel, by decide +kernel, by decide +kernel⟩, rfl⟩
      · exact ⟨_, .int 999999999, ⟨by decide +kernel, by decide +kernel, by decide +kernel⟩, by decide +kernel⟩
    have hD8 := x13 _ _ hD7
    have hR8 := Reps.mono x13 hR7
    have hT8 := hT7.ext x13
    have D8 := D7.exN (ExtN.of x13)
    have hnt8 := TyX.mono x13 hnt
    have n8 := n7.trans (ExtN.of x13)
    generalize upd (upd (upd G7 t1 (.tup [.int 1])) t2 (.lst [])) pl (.lst [.non, .bl true, .bl false, .int 0, .int 2401, .int (-1), .str "1", .ref t1, .ref t2, .int 999999999]) = G8 at hA11 hns hD8 hR8 hT8 D8 hnt8 n8
    obtain ⟨dz, hdz, oz, hz0⟩ := hns
    clear hnz x13 x23 x1 x2 x3 b1 b2 b3 m1 m2 npl hA10 hD7 hR7 hT7 D7 hnt n7
    -- asked
    have hTs := hT8.ext hA11.ex
    have hDs := hA11.ex _ _ hD8
    have hRs := Reps.mono hA11.ex hR8
    have hnts := TyX.mono hA11.ex hnt8
    have hdzs := hdz.mono hA11.ex
    have Ds := D8.exN (ExtN.of hA11.ex)
    have first : ∀ {Ha : Hp} {tl : XK → Hp → VK → Prop} {Q' : VK}, ExtN H11 Ha → (∀ E1 Q1, spParting K AA [.int n, .ref D] Ha Q1 E1 → tl E1 Ha Q1) → (∀ w H', Ex Ha H' → Due2 H' w rr → Q' (.ref w) H') → tWhy3 AA tl Ha Q' := fun {Ha tl Q'} na htl k => by
      have hDa := na _ _ hDs (fun _ => nofun)
      have hRa := Reps.exN na hRs
      cases hb : badN n ds ds.length with
      | nil =>
        rw [hb] at hrr
        subst hrr
        obtain ⟨l2, hl2⟩ := pairs_all (badN_nil hb)
        exact why_good htl (fun E1 Q1 h => ⟨_, _, _, rfl, .int _, .inr (.inr ⟨n, D, us, ds, rfl, h1, by omega, rfl, .inl hDa, hRa, by omega, .inr ⟨badN_nil hb, l2, hl2, fun rq H' e _ _ => h rq H' e⟩⟩)⟩) k
      | cons k0 br =>
        rw [hb] at hrr
        subst hrr
        exact why_err (cls := .ref AA.InvalidTie) (nm := "InvalidTie") (f := "at") (z := .int (k0 : Nat)) (.inr (.inl ⟨rfl, rfl, rfl⟩)) htl (fun E1 Q1 h => ⟨_, _, _, rfl, .int _, .inr (.inr ⟨n, D, us, ds, rfl, h1, by omega, rfl, .inl hDa, hRa, by omega, .inl ⟨k0, badN_first hb, h⟩⟩)⟩) k
    refine ⟨hTs, fun Ha na ta => first na (fun E1 Q1 h => ⟨_, rfl, _, rfl, h⟩) fun w1 Hb eb D1 => ?_⟩
    have nb := na.trans (ExtN.of eb)
    refine ⟨ta.ext eb, fun Hc nc tc => why_err (K := K) (v1 := .int n) (v2 := nl) (cls := .ref AA.InvalidTie) (nm := "InvalidTie") (f := "at") (z := .int (-1)) (.inr (.inl ⟨rfl, rfl, rfl⟩)) (fun E1 Q1 h => ⟨_, rfl, _, rfl, h⟩) (fun E1 Q1 h => ⟨_, _, _, rfl, .int _, .inr (.inl ⟨n, rfl, h1, by omega, ⟨nt, TyX.exN (nb.trans nc) hnts, hkt⟩, h⟩)⟩) fun w2 Hd ed D2 => ?_⟩
    have nd := nb.trans (nc.trans (ExtN.of ed))
    refine ⟨tc.ext ed, fun He ne te => why_err (K := K) (v1 := nz) (v2 := nl) (cls := .ref AA.InvalidNumber) (nm := "InvalidNumber") (f := "value") (z := nz) (.inl ⟨rfl, rfl, rfl⟩) (fun E1 Q1 h => ⟨_, rfl, _, rfl, h⟩) (fun E1 Q1 h => ⟨nz, _, dz, rfl, hdzs.exN (nd.trans ne), .inl ⟨hz0, h⟩⟩) fun w3 Hf ef D3 => ⟨by show 3 ≤ sizeLine; decide, fun W nW => ?_⟩⟩
    have nf := nd.trans (ne.trans (ExtN.of ef))
    have xW := Ex.new (o := .lst [.ref w1, .ref w2, .ref w3]) nW
    have hW : (upd Hf W (.lst [.ref w1, .ref w2, .ref w3])) W = some (.lst [.ref w1, .ref w2, .ref w3]) := upd_same
    generalize upd Hf W (.lst [.ref w1, .ref w2, .ref w3]) = Hg at xW hW ⊢
    refine ⟨_, rfl, .inl ⟨rfl, _, sq_of hW⟩, te.ext (ef.trans xW), fun Hh nh th => why_err (K := K) (v1 := nz) (v2 := .ref D) (cls := .ref AA.InvalidNumber) (nm := "InvalidNumber") (f := "value") (z := nz) (.inl ⟨rfl, rfl, rfl⟩) (fun E1 Q1 h => ⟨_, rfl, _, rfl, h⟩) (fun E1 Q1 h => ⟨nz, _, dz, rfl, hdzs.exN (nf.trans ((ExtN.of xW).trans nh)), .inl ⟨hz0, h⟩⟩) fun w4 Hi ei D4 => ⟨W, [.ref w1, .ref w2, .ref w3], .ref w4, rfl, rfl, ei _ _ (nh _ _ hW (fun _ => nofun)), by show 3 < sizeLine; decide, ?_⟩⟩
    have hWi := ei _ _ (nh _ _ hW (fun _ => nofun))
    have ngi : ExtN Hf Hi := (ExtN.of xW).trans (nh.trans (ExtN.of ei))
    have nj : ExtN Hf (upd Hi W (.lst ([.ref w1, .ref w2, .ref w3] ++ [.ref w4]))) := ExtN.mut ngi nW
    have tj : Tabs (TT AA) (upd Hi W (.lst ([.ref w1, .ref w2, .ref w3] ++ [.ref w4]))) := tabs_keep (th.ext ei) (keep_upd hWi)
    have hWj : (upd Hi W (.lst ([.ref w1, .ref w2, .ref w3] ++ [.ref w4]))) W = some (.lst [.ref w1, .ref w2, .ref w3, .ref w4]) := upd_same
    have D4j : Due2 (upd Hi W (.lst ([.ref w1, .ref w2, .ref w3] ++ [.ref w4]))) w4 (some ("InvalidNumber", nz)) := by
      obtain ⟨e, g1, g2⟩ := D4
      exact ⟨e, keep_upd hWi _ _ g1 (fun _ => nofun), keep_upd hWi _ _ g2 (fun _ => nofun)⟩
    have n1f := (nc.trans (ExtN.of ed)).trans (ne.trans (ExtN.of ef))
    have n2f := ne.trans (ExtN.of ef)
    have D1j := (D1.exN n1f).exN nj
    have D2j := (D2.exN n2f).exN nj
    have D3j := D3.exN nj
    have Dj := (Ds.exN nf).exN nj
    have nsj := nf.trans nj
    generalize upd Hi W (.lst ([.ref w1, .ref w2, .ref w3] ++ [.ref w4])) = Hj at nj tj hWj D4j D1j D2j D3j Dj nsj ⊢
    refine ⟨_, rfl, _, rfl, 1, rfl, by show 1 ≤ sizeLine; decide, fun q1 nq1 => ⟨by show 2 ≤ sizeLine; decide, fun q2 nq2 => ⟨_, rfl, by show 1 ≤ sizeLine; decide, fun q3 nq3 => ⟨by show 2 ≤ sizeLine; decide, fun q4 nq4 => ⟨_, rfl, by show 1 ≤ sizeLine; decide, fun q5 nq5 => ⟨by show 2 ≤ sizeLine; decide, fun q6 nq6 => ⟨by show 4 ≤ sizeLine; decide, fun q7 nq7 => ?_⟩⟩⟩⟩⟩⟩⟩
    have z1 := Ex.new (o := .tup [.int (-1)]) nq1
    have z2 := Ex.new (o := .tup [.str "InvalidTie", .ref q1]) nq2
    have z3 := Ex.new (o := .tup [nz]) nq3
    have z4 := Ex.new (o := .tup [.str "InvalidNumber", .ref q3]) nq4
    have z5 := Ex.new (o := .tup [nz]) nq5
    have z6 := Ex.new (o := .tup [.str "InvalidNumber", .ref q5]) nq6
    have z7 := Ex.new (o := .lst [.ref dd, .ref q2, .ref q4, .ref q6]) nq7
    have z67 := z6.trans z7
    have z57 := z5.trans z67
    have z47 := z4.trans z57
    have z37 := z3.trans z47
    have z27 := z2.trans z37
    have z17 := z1.trans z27
    have E2 := (show Due2 _ q2 (some ("InvalidTie", .int (-1))) from ⟨q1, z37 _ _ upd_same, z27 _ _ upd_same⟩)
    have E4 := (show Due2 _ q4 (some ("InvalidNumber", nz)) from ⟨q3, z57 _ _ upd_same, z47 _ _ upd_same⟩)
    have E6 := (show Due2 _ q6 (some ("InvalidNumber", nz)) from ⟨q5, z7 _ _ upd_same, z67 _ _ upd_same⟩)
    have N := ExtN.of z17
    have rz := hdzs.exN (nsj.trans N)
    have smz : Sm AA.Circle _ 9 nz nz := Rep.sm 9 rz rz (by have := oz.1; omega) (by have := oz.2.1; omega)
    refine ⟨_, _, rfl, Sms.lst (.cons ((D1j.exN N).sm (Dj.exN N) (fun z hz => ?_)) (.cons ((D2j.exN N).sm E2 (fun z hz => by cases hz; exact .int')) (.cons ((D3j.exN N).sm E4 (fun z hz => by cases hz; exact smz)) (.cons ((D4j.exN N).sm E6 (fun z hz => by cases hz; exact smz)) .nil)))) (z17 _ _ hWj) upd_same (by show 4 ≤ 90000; decide), fun Hk ek => ?_⟩
    · cases hb : badN n ds ds.length with
      | nil =>
        rw [hb] at hrr
        rw [hrr] at hz
        cases hz
      | cons k0 br =>
        rw [hb] at hrr
        rw [hrr] at hz
        cases hz
        exact .int'
    · obtain ⟨G9, a12, n9, t9, _⟩ := hA11.extN (nsj.trans (N.trans (ExtN.of ek))) (tj.ext (z17.trans ek))
      exact q G9 Hk a12 (n8.trans n9) t9
end
end Eyes

set_option Elab.async false
set_option linter.all false
set_option maxRecDepth 100000
set_option maxHeartbeats 4000000
namespace Eyes
open PySem PySem.Spec PyProof.Rows L2 Evl TL LamX
def spLaw (K : PySem.W.Frag) (TT : List (Addr × Str)) : Sp := fun vs H Q _ => ∃ (a : Addr) (ns : List Int), vs = [.ref a] ∧ SqL K H a (ns.map V.int) ∧ ns.length ≤ 63 ∧ Tabs TT H ∧ ∀ H', Q (.bl true) H'
theorem isP_one (n : Nat) : IsP n (List.replicate n 1) := by
  have it : ∀ x, 1 ≤ x → x ≤ n → itm (List.replicate n 1) x = 1 := fun x h1 h2 => by
    unfold itm
    rw [List.getD_eq_getElem?_getD, List.getElem?_replicate, if_pos (by omega)]
    rfl
  refine ⟨List.length_replicate, fun x h1 h2 => ?_, fun x h1 h2 => ?_⟩
  · rw [it x h1 h2]
    omega
  · rw [it x h1 h2]
    exact it 1 (Nat.le_refl _) (by omega)
theorem le_alone {n : Nat} {q : List Nat} : Le n (alone n) q := fun x y h1 h2 h3 h4 a => by
  have a : itm (alone n) x = itm (alone n) y := a
  rw [itm_alone h1 h2, itm_alone h3 h4] at a
  rw [a]
  rfl
theorem wide_item {n u v : Nat} (hu : 1 ≤ u ∧ u ≤ n) (hv : 1 ≤ v ∧ v ≤ n) : itm (mrgs (alone n) [(u, v), (n, u)]) v = min u v := by
  have hN : inN n [(u, v), (n, u)] := fun xy h => by
    simp only [List.mem_cons, List.not_mem_nil, or_false] at h
    rcases h with rfl | rfl
    · exact ⟨hu, hv⟩
    · exact ⟨⟨by show 1 ≤ n; omega, Nat.le_refl _⟩, hu⟩
  have hD := isP_mrgs (isP_alone n) hN
  have j1 : itm (mrgs (alone n) [(u, v), (n, u)]) u = itm (mrgs (alone n) [(u, v), (n, u)]) v := mrgs_joins (isP_alone n) hN (xy := (u, v)) List.mem_cons_self
  have l1 := hD.lo v hv.1 hv.2
  have l2 := hD.lo u hu.1 hu.2
  have rt := hD.rt v hv.1 hv.2
  generalize hz : itm (mrgs (alone n) [(u, v), (n, u)]) v = z at j1 l1 rt
  have f := mrgs_least (f := fun x => if x = u ∨ x = v ∨ x = n then 0 else x) (isP_alone n) hN (fun a b a1 a2 b1 b2 e => by
    have e : itm (alone n) a = itm (alone n) b := e
    rw [itm_alone a1 a2, itm_alone b1 b2] at e
    rw [e]) (fun xy h => by
    simp only [List.mem_cons, List.not_mem_nil, or_false] at h
    rcases h with rfl | rfl
    · show (if u = u ∨ u = v ∨ u = n then 0 else u) = (if v = u ∨ v = v ∨ v = n then 0 else v)
      rw [if_pos (.inl rfl), if_pos (.inr (.inl rfl))]
    · show (if n = u ∨ n = v ∨ n = n then 0 else n) = (if u = u ∨ u = v ∨ u = n then 0 else u)
      rw [if_pos (c := n = u ∨ n = v ∨ n = n) (.inr (.inr rfl)), if_pos (.inl rfl)]) (a := z) (b := v) ⟨l1.1, by omega⟩ hv (show itm _ z = itm _ v from by rw [hz]; exact rt)
  have f : (if z = u ∨ z = v ∨ z = n then 0 else z) = (if v = u ∨ v = v ∨ v = n then 0 else v) := f
  rw [if_pos (c := v = u ∨ v = v ∨ v = n) (.inr (.inl rfl))] at f
  by_cases g : z = u ∨ z = v ∨ z = n
  · omega
  · rw [if_neg g] at f
    omega
theorem two_prh {G : Hp} {t1 t2 : Addr} {x y z u : Nat} (g1 : G t1 = some (.tup [.int x, .int y])) (g2 : G t2 = some (.tup [.int z, .int u])) : Prh G [.ref t1, .ref t2] [(x, y), (z, u)] := ⟨rfl, fun i v hv => by
  match i, hv with
  | 0, hv => cases hv; exact ⟨t1, (x, y), rfl, rfl, g1⟩
  | 1, hv => cases hv; exact ⟨t2, (z, u), rfl, rfl, g2⟩⟩
theorem rep_go {K : PySem.W.Frag} {t : Addr} {n : Nat} {H : Hp} {Q : VK} (ht : H t = some (.tup [.int 1])) (h1 : 1 ≤ n) (h2 : n ≤ 1000) (h : ∀ r H', Ex H H' → H' r = some (.tup (nvs (List.replicate n 1))) → Q (.ref r) H') : rRepT K (.ref t) (.int n) H Q ∨ rRep1 K (.ref t) (.int n) H Q := by
  rcases Nat.lt_or_ge 1 n with g | g
  · refine .inl ⟨t, n, [.int 1], rfl, rfl, st_of ht, by simp, by omega, by omega, by show 1 ≤ 1000; decide, fun r nr => ?_⟩
    rw [show ((n : Nat) : Int).toNat = n by omega, rep_nvs]
    exact h r _ (Ex.new nr) upd_same
  · obtain rfl : n = 1 := by omega
    exact .inr ⟨t, [.int 1], rfl, rfl, st_of ht, h t _ (Ex.refl _) ht⟩
section
variable {P : Program} {w : World} {K : PySem.W.Frag} {mg : Str → Option Value} {base : Heap} {AA : Adr}
theorem ok_law (T : Txt K mg AA) (TBA : TabB base mg AA.cdA AA.tbA) (TBB : TabB base mg AA.cdB AA.tbB) : Pr P w K mg base "law" s_law p_law 29 (spLaw K (TT AA)) := by
  refine pr_mk T.f_law sc_law (fun vs H Q E h => ?_) (fun f cdv A outer s H vs Q E hr h => ?_)
  · obtain ⟨a, ns, rfl, _⟩ := h
    rfl
  · obtain ⟨a, ns, rfl, hS, hlen, hT, q⟩ := h
    refine ⟨_, (pss_cons (ps_set (i := 1) sc_law.nd rfl (.inl rfl) (pcall (ok_law_bag T) hr (pa_cons (pv 0) pa_nil)))
      (pss_cons (ps_set (i := 2) sc_law.nd rfl (.inl rfl) (pcall (ok_law_of T) hr (pa_cons (pv 1) (pa_cons (pe_lst (pa_cons pe_int (pa_cons pe_int (pa_cons pe_int (pa_cons pe_int (pa_cons pe_int (pa_cons pe_int (pa_cons pe_int (pa_cons pe_int (pa_cons pe_int (pa_cons pe_int pa_nil))))))))))) pa_nil))))
      (pss_cons (ps_par3 (i := 3) (j := 4) (l := 5) rfl sc_law.nd rfl rfl rfl (by decide) (by decide) (by decide) rfl rfl rfl (pa_cons (pcall (ok_law_rows T) hr (pa_cons (pv 1) (pa_cons (pv 2) pa_nil))) (pa_cons (pcall (ok_law_rows T) hr (pa_cons (pv 1) (pa_cons (pv 2) pa_nil))) (pa_cons (pcall (ok_law_rows T) hr (pa_cons (pv 1) (pa_cons (pv 2) pa_nil))) pa_nil))) rfl)
      (Evl.pss_cut (ps_if (pt_cmpR op_eq (pcall (ok_law_draw T) hr (pa_cons (pv 1) (pa_cons pe_int pa_nil))) pe_int (nomark _))
      (pss_one (ps_set (i := 4) sc_law.nd rfl (.inl rfl) (pcall (ok_law_merged T) hr (pa_cons (pv 3) (pa_cons (pcall (ok_law_couples T) hr (pa_cons (pv 1) (pa_cons (pv 2) (pa_cons (pe_op op_add pe_int (pcall (ok_law_draw T) hr (pa_cons (pv 1) (pa_cons pe_int pa_nil)))) pa_nil)))) pa_nil)))))
      pss_nil)
      (pss_cons (ps_par (i := 6) (j := 7) rfl sc_law.nd rfl rfl (by decide) rfl rfl (pa_cons (pcall (ok_apart T) hr (pa_cons (pv 2) pa_nil)) (pa_cons (pcallN0 (ok_together T) kw_together_0_many hr (pk_cons (pv 2) pk_nil)) pa_nil)) rfl)
      (pss_cons (ps_if (pt_not (pt_val (pcall (ok_law_sm T 12) hr (pa_cons (pe_lst (pa_cons (pv 6) (pa_cons (pv 7) (pa_cons (pcallN0 (ok_apart T) kw_apart_0_many hr (pk_cons (pv 2) pk_nil)) (pa_cons (pcall (ok_together T) hr (pa_cons (pv 2) pa_nil)) pa_nil))))) (pa_cons (pe_lst (pa_cons (pcall (ok_law_alone T) hr (pa_cons (pv 2) pa_nil)) (pa_cons (pe_op (opR_or op_repT op_rep1) (pe_tup (pa_cons pe_int pa_nil)) (pv 2)) (pa_cons (pcall (ok_law_alone T) hr (pa_cons (pv 2) pa_nil)) (pa_cons (pe_op (opR_or op_repT op_rep1) (pe_tup (pa_cons pe_int pa_nil)) (pv 2)) pa_nil))))) pa_nil)))))
      (pss_one (ps_ret pe_bl))
      pss_nil)
      (pss_cons (ps_for PassesOwn.never rfl (pi_list (pe_lst (pa_cons (pe_tup (pa_cons (pv 3) (pa_cons (pv 4) (pa_cons (pv 5) pa_nil)))) (pa_cons (pe_tup (pa_cons (pv 5) (pa_cons (pv 3) (pa_cons (pv 7) pa_nil)))) (pa_cons (pe_tup (pa_cons (pv 6) (pa_cons (pv 4) (pa_cons (pv 3) pa_nil)))) (pa_cons (pe_tup (pa_cons (pv 4) (pa_cons (pv 5) (pa_cons (pv 6) pa_nil)))) pa_nil)))))) (pg_name (i := 8) sc_law.nd rfl (.inl rfl))
      (pss_one (ps_if (pt_not (pt_val (pcall (ok_law_lattice_so T) hr (pa_cons (pe_ix (ix_tupK (K := K) rfl) (pv 8) pe_int (fun _ _ => rfl)) (pa_cons (pe_ix (ix_tupK (K := K) rfl) (pv 8) pe_int (fun _ _ => rfl)) (pa_cons (pe_ix (ix_tupK (K := K) rfl) (pv 8) pe_int (fun _ _ => rfl)) pa_nil))))))
      (pss_one (ps_ret pe_bl))
      pss_nil)))
      (pss_cons (ps_for PassesOwn.never rfl (pi_list (pe_lst (pa_cons (pv 3) (pa_cons (pv 4) (pa_cons (pv 6) (pa_cons (pv 7) pa_nil)))))) (pg_name (i := 8) sc_law.nd rfl (.inl rfl))
      (pss_one (ps_if (pt_not (pt_val (pcall (ok_law_lots_so T) hr (pa_cons (pv 8) (pa_cons (pv 2) pa_nil)))))
      (pss_one (ps_ret pe_bl))
      pss_nil)))
      (pss_cons (ps_for PassesOwn.never rfl (pi_range1 (by rfl) T.n_range (pa_cons pe_int pa_nil)) (pg_name (i := 9) sc_law.nd rfl (.inl rfl))
      (pss_one (ps_if (PW.pt (pw_or (pt_not (pt_val (pcall (ok_law_judged_so T TBA) hr (pa_cons (pv 1) (pa_cons (pcall (ok_law_of T) hr (pa_cons (pv 1) (pa_cons (pe_lst (pa_cons (pv 3) (pa_cons (pv 4) (pa_cons (pv 5) pa_nil)))) pa_nil))) pa_nil))))) (pw_or1 (pt_not (pt_val (pcall (ok_law_pairs_so T TBB) hr (pa_cons (pv 1) (pa_cons (pv 2) pa_nil))))))))
      (pss_one (ps_ret pe_bl))
      pss_nil)))
      (pss_cons (ps_if (pt_cmpR op_eq (pcall (ok_law_draw T) hr (pa_cons (pv 1) (pa_cons pe_int pa_nil))) pe_int (nomark _))
      (pss_cons (ps_par (i := 10) (j := 11) rfl sc_law.nd rfl rfl (by decide) rfl rfl (pa_cons (pe_op op_add pe_int (pcall (ok_law_draw T) hr (pa_cons (pv 1) (pa_cons pe_int pa_nil)))) (pa_cons (pe_op op_add pe_int (pcall (ok_law_draw T) hr (pa_cons (pv 1) (pa_cons pe_int pa_nil)))) pa_nil)) rfl)
      (pss_cons (ps_par (i := 12) (j := 6) rfl sc_law.nd rfl rfl (by decide) rfl rfl (pa_cons (pcallY (ok_parting_of T) hr (pa_cons pe_int (pa_cons (pe_lst (pa_cons (pe_tup (pa_cons (pv 10) (pa_cons (pv 11) pa_nil))) (pa_cons (pe_tup (pa_cons pe_int (pa_cons (pv 10) pa_nil))) pa_nil))) pa_nil))) (pa_cons (pe_callB (call_min2 rfl) (by rfl) T.n_min PyProof.Rows.boot_min (pa_cons (pv 10) (pa_cons (pv 11) pa_nil))) pa_nil)) rfl)
      (pss_cons (ps_set (i := 13) sc_law.nd rfl (.inl rfl) (pcall (ok_law_merged T) hr (pa_cons (pcall (ok_law_alone T) hr (pa_cons pe_int pa_nil)) (pa_cons (pe_lst (pa_cons (pe_tup (pa_cons (pv 10) (pa_cons (pv 11) pa_nil))) (pa_cons (pe_tup (pa_cons pe_int (pa_cons (pv 10) pa_nil))) pa_nil))) pa_nil))))
      (pss_one (ps_ret (pe_and (pcall (ok_law_sm T 12) hr (pa_cons (pv 12) (pa_cons (pv 13) pa_nil))) (pe_and (pe_cmpR op_isBl (pcall (ok_is_parting T) hr (pa_cons (pv 12) pa_nil)) pe_bl (nomark _)) (pe_and (pe_cmpR op_isBl (pcallY (ok_is_within T) hr (pa_cons (pcall (ok_apart T) hr (pa_cons pe_int pa_nil)) (pa_cons (pv 12) pa_nil))) pe_bl (nomark _)) (pe_one (pe_cmpR op_eq (pv 6) (pe_ix (ix_tupK (K := K) rfl) (pv 13) (pe_op op_sub (pv 11) pe_int) (fun _ _ => rfl)) (nomark _)))))))))))
      pss_nil)
      (pss_one (ps_ret pe_bl)))))))))))), ?_⟩
    refine ⟨_, rfl, a, ns, rfl, hS, fun b H1 hb hA1 => ?_⟩
    refine ⟨_, rfl, by show 10 ≤ sizeLine; decide, fun pl npl => ⟨b, .ref pl, _, _, rfl, hA1.new npl, .inl ⟨pl, rfl, sq_of upd_same⟩, by show 0 < 10; decide, by show 10 < 1073741824; decide, fun vn H2 hvn hA2 => ?_⟩⟩
    obtain ⟨n, rfl, h1, hn⟩ : ∃ n : Nat, vn = .int n ∧ 1 ≤ n ∧ n ≤ 60 := by
      simp only [List.mem_cons, List.not_mem_nil, or_false] at hvn
      rcases hvn with rfl | rfl | rfl | rfl | rfl | rfl | rfl | rfl | rfl | rfl
      · exact ⟨4, rfl, by decide, by decide⟩
      · exact ⟨5, rfl, by decide, by decide⟩
      · exact ⟨6, rfl, by decide, by decide⟩
      · exact ⟨3, rfl, by decide, by decide⟩
      · exact ⟨2, rfl, by decide, by decide⟩
      · exact ⟨1, rfl, by decide, by decide⟩
      · exact ⟨7, rfl, by decide, by decide⟩
      · exact ⟨9, rfl, by decide, by decide⟩
      · exact ⟨5, rfl, by decide, by decide⟩
      · exact ⟨40, rfl, by decide, by decide⟩
    have hT0 := hT.ext (Ex.new (o := .lst [.int 4, .int 5, .int 6, .int 3, .int 2, .int 1, .int 7, .int 9, .int 5, .int 40]) (hA1.nh npl))
    generalize upd H pl _ = G0 at hA2 hT0
    clear hA1 hvn npl
    -- three rows
    refine ⟨_, rfl, _, rfl, b, n, G0, rfl, hA2, h1, hn, fun p rp G1 H3 hP e1 gp hA3 => ⟨_, rfl, _, rfl, b, n, G1, rfl, hA3, h1, hn, fun p2 rq G2 H4 hQ e2 gq hA4 => ⟨_, rfl, _, rfl, b, n, G2, rfl, hA4, h1, hn, fun p3 rr G3 H5 hR e3 gr hA5 => ⟨_, _, _, rfl, ?_⟩⟩⟩⟩
    have gq := e3 _ _ gq
    have gp := e3 _ _ (e2 _ _ gp)
    have hT3 := hT0.ext (e1.trans (e2.trans e3))
    clear e1 e2 e3 hA2 hA3 hA4 hT0
    refine ⟨fun σ' H' => ∃ (q2 : Addr) (qs : List Nat) (G4 : Hp), σ' = [some (.ref a), some (.ref b), some (.int n), some (.ref rp), some (.ref q2), some (.ref rr), none, none, none, none, none, none, none, none] ∧ At b G4 H' ∧ Ex G3 G4 ∧ G4 q2 = some (.tup (nvs qs)) ∧ IsP n qs, ?_, fun σ' H' hm => ?_⟩
    · refine ⟨_, rfl, b, 3, G3, rfl, hA5, by decide, by decide, fun d H6 d0 d1 hA6 => ⟨rfl, _, rfl, ite2 (fun h0 => ?_) (fun h0 => ?_)⟩⟩
      · refine ⟨_, rfl, _, rfl, _, rfl, _, rfl, b, 2, G3, rfl, hA6, by decide, by decide, fun e H7 e0 e1 hA7 => ?_⟩
        obtain ⟨k, rfl⟩ : ∃ k : Nat, e = (k : Int) := ⟨e.toNat, by omega⟩
        refine ⟨1, k, rfl, rfl, b, n, 1 + k, G3, by
          show [V.ref b, .int n, .int (1 + (k : Int))] = _
          rw [show (1 : Int) + (k : Int) = ((1 + k : Nat) : Int) by omega], hA7, h1, by omega, by omega, fun l r ws G4 H8 hN hl e4 nr hr hPr hA8 => ?_⟩
        refine ⟨n, rp, r, p, ws, l, rfl, by omega, st_of (hA8.ex _ _ (e4 _ _ gp)), hP, sq_of (hA8.ex _ _ hr), (hPr.ex hA8.ex).to, hN, fun q2 H9 e9 nq2 gq2 => ?_⟩
        obtain ⟨G5, a9, e5, k1, _⟩ := hA8.grow e9
        exact ⟨q2, mrgs p l, G5, rfl, a9, e4.trans e5, k1 _ _ gq2 (fun _ => nofun), isP_mrgs hP hN⟩
      · exact ⟨rq, p2, G3, rfl, hA6, Ex.refl _, gq, hQ⟩
    obtain ⟨q2, qs, G4, rfl, hA6, e4, gq4, hQ4⟩ := hm
    have gp := e4 _ _ gp
    have gr := e4 _ _ gr
    have hT4 := hT3.ext e4
    clear hT3 gq hQ hA5 e4
    -- the least and the greatest
    refine ⟨_, rfl, n, rfl, by omega, fun lo nlo => ⟨_, rfl, rfl, rfl, n, rfl, h1, by omega, fun hi H7 e7 nhi ghi => ⟨_, _, rfl, ?_⟩⟩⟩
    have a7 := hA6.new (o := .tup (nvs (alone n))) nlo
    have x7 := Ex.new (o := .tup (nvs (alone n))) (hA6.nh nlo)
    obtain ⟨G5, a8, e8, k1, _⟩ := a7.grow e7
    have ghi := k1 _ _ ghi (fun _ => nofun)
    have glo := e8 _ _ (upd_same (H := G4) (a := lo) (o := .tup (nvs (alone n))))
    have x8 := x7.trans e8
    have gp := x8 _ _ gp
    have gq := x8 _ _ gq4
    have gr := x8 _ _ gr
    have hT5 := hT4.ext x8
    have hL : IsP n (alone n) := isP_alone n
    have hH : IsP n (List.replicate n 1) := isP_one n
    have hLl : (alone n).length ≤ 90000 := by
      rw [hL.len]
      omega
    have hHl : (List.replicate n 1).length ≤ 90000 := by
      rw [hH.len]
      omega
    clear x8 k1 a7 x7 e8 e7 nlo nhi hA6 gq4 hT4
    refine ⟨_, rfl, _, rfl, _, rfl, rfl, rfl, n, rfl, by omega, fun l3 nl3 => ⟨_, rfl, n, rfl, h1, by omega, fun l4 H9 e9 nl4 gl4 => ⟨by show 4 ≤ sizeLine; decide, fun L nL => ?_⟩⟩⟩
    have x3 := Ex.new (o := .tup (nvs (alone n))) nl3
    have xL := Ex.new (o := .lst [.ref lo, .ref hi, .ref l3, .ref l4]) nL
    refine ⟨_, rfl, n, rfl, by omega, fun m1 nm1 => ⟨by show 1 ≤ sizeLine; decide, fun t1 nt1 => ⟨_, rfl, rep_go upd_same h1 (by omega) fun m2 H10 e10 gm2 => ⟨_, rfl, n, rfl, by omega, fun m3 nm3 => ⟨by show 1 ≤ sizeLine; decide, fun t2 nt2 => ⟨_, rfl, rep_go upd_same h1 (by omega) fun m4 H11 e11 gm4 => ⟨by show 4 ≤ sizeLine; decide, fun M nM => ?_⟩⟩⟩⟩⟩⟩⟩
    have xM := Ex.new (o := .lst [.ref m1, .ref m2, .ref m3, .ref m4]) nM
    have z4 := e11.trans xM
    have z3 := (Ex.new (o := .tup [.int 1]) nt2).trans z4
    have z2 := (Ex.new (o := .tup (nvs (alone n))) nm3).trans z3
    have z1 := (Ex.new (o := .tup [.int 1]) nt1).trans (e10.trans z2)
    have z0 := (Ex.new (o := .tup (nvs (alone n))) nm1).trans z1
    have y4 := xL.trans z0
    have y3 := e9.trans y4
    have y0 := x3.trans y3
    refine ⟨_, _, rfl, Sms.lst (.cons (nvs_sm (y0 _ _ (a8.ex _ _ glo)) (z1 _ _ upd_same) hLl) (.cons (nvs_sm (y0 _ _ (a8.ex _ _ ghi)) (z2 _ _ gm2) hHl) (.cons (nvs_sm (y3 _ _ upd_same) (z3 _ _ upd_same) hLl) (.cons (nvs_sm (y4 _ _ gl4) (xM _ _ gm4) hHl) .nil)))) (z0 _ _ upd_same) upd_same (by show 4 ≤ 90000; decide), fun H12 e12 => ⟨_, rfl, iteF ?_⟩⟩
    have a12 := a8.mono (y0.trans e12)
    clear y0 y3 y4 z0 z1 z2 z3 z4 xM xL x3 e9 e10 e11 e12 gl4 gm2 gm4 nm1 nm3 nM nL nl3 nl4 nt1 nt2 a8
    -- four triples
    refine ⟨_, rfl, _, rfl, _, rfl, by show 3 ≤ sizeLine; decide, fun t1 nt1 => ⟨_, rfl, _, rfl, _, rfl, by show 3 ≤ sizeLine; decide, fun t2 nt2 => ⟨_, rfl, _, rfl, _, rfl, by show 3 ≤ sizeLine; decide, fun t3 nt3 => ⟨_, rfl, _, rfl, _, rfl, by show 3 ≤ sizeLine; decide, fun t4 nt4 => ⟨by show 4 ≤ sizeLine; decide, fun L nL => ?_⟩⟩⟩⟩⟩
    have b1 := a12.new (o := .tup [.ref rp, .ref q2, .ref rr]) nt1
    have x1 := Ex.new (o := .tup [.ref rp, .ref q2, .ref rr]) (a12.nh nt1)
    have b2 := b1.new (o := .tup [.ref rr, .ref rp, .ref hi]) nt2
    have x2 := Ex.new (o := .tup [.ref rr, .ref rp, .ref hi]) (b1.nh nt2)
    have b3 := b2.new (o := .tup [.ref lo, .ref q2, .ref rp]) nt3
    have x3 := Ex.new (o := .tup [.ref lo, .ref q2, .ref rp]) (b2.nh nt3)
    have b4 := b3.new (o := .tup [.ref q2, .ref rr, .ref lo]) nt4
    have x4 := Ex.new (o := .tup [.ref q2, .ref rr, .ref lo]) (b3.nh nt4)
    have b5 := b4.new (o := .lst [.ref t1, .ref t2, .ref t3, .ref t4]) nL
    have x5 := Ex.new (o := .lst [.ref t1, .ref t2, .ref t3, .ref t4]) (b4.nh nL)
    have x45 := x4.trans x5
    have x35 := x3.trans x45
    have x25 := x2.trans x35
    have x15 := x1.trans x25
    have g1 := x25 _ _ (upd_same (H := G5) (a := t1) (o := .tup [.ref rp, .ref q2, .ref rr]))
    have g2 := x35 _ _ (upd_same (H := upd G5 t1 (.tup [.ref rp, .ref q2, .ref rr])) (a := t2) (o := .tup [.ref rr, .ref rp, .ref hi]))
    have g3 := x45 _ _ (upd_same (H := upd (upd G5 t1 (.tup [.ref rp, .ref q2, .ref rr])) t2 (.tup [.ref rr, .ref rp, .ref hi])) (a := t3) (o := .tup [.ref lo, .ref q2, .ref rp]))
    have g4 := x5 _ _ (upd_same (H := upd (upd (upd G5 t1 (.tup [.ref rp, .ref q2, .ref rr])) t2 (.tup [.ref rr, .ref rp, .ref hi])) t3 (.tup [.ref lo, .ref q2, .ref rp])) (a := t4) (o := .tup [.ref q2, .ref rr, .ref lo]))
    have gL := upd_same (H := upd (upd (upd (upd G5 t1 (.tup [.ref rp, .ref q2, .ref rr])) t2 (.tup [.ref rr, .ref rp, .ref hi])) t3 (.tup [.ref lo, .ref q2, .ref rp])) t4 (.tup [.ref q2, .ref rr, .ref lo])) (a := L) (o := .lst [.ref t1, .ref t2, .ref t3, .ref t4])
    have gp := x15 _ _ gp
    have gq := x15 _ _ gq
    have gr := x15 _ _ gr
    have glo := x15 _ _ glo
    have ghi := x15 _ _ ghi
    have hT6 := hT5.ext x15
    clear x1 x2 x3 x4 x5 x45 x35 x25 x15 b1 b2 b3 b4 hT5
    generalize upd (upd (upd (upd (upd G5 t1 (.tup [.ref rp, .ref q2, .ref rr])) t2 (.tup [.ref rr, .ref rp, .ref hi])) t3 (.tup [.ref lo, .ref q2, .ref rp])) t4 (.tup [.ref q2, .ref rr, .ref lo])) L (.lst [.ref t1, .ref t2, .ref t3, .ref t4]) = G6 at b5 g1 g2 g3 g4 gL gp gq gr glo ghi hT6
    generalize upd (upd (upd (upd (upd H12 t1 (.tup [.ref rp, .ref q2, .ref rr])) t2 (.tup [.ref rr, .ref rp, .ref hi])) t3 (.tup [.ref lo, .ref q2, .ref rp])) t4 (.tup [.ref q2, .ref rr, .ref lo])) L (.lst [.ref t1, .ref t2, .ref t3, .ref t4]) = H13 at b5 ⊢
    clear nt1 nt2 nt3 nt4 nL a12
    have tri : ∀ (i : Nat) (z : V), [V.ref t1, .ref t2, .ref t3, .ref t4][i]? = some z → ∃ t x y u px py pu, z = .ref t ∧ G6 t = some (.tup [.ref x, .ref y, .ref u]) ∧ G6 x = some (.tup (nvs px)) ∧ G6 y = some (.tup (nvs py)) ∧ G6 u = some (.tup (nvs pu)) ∧ IsP n px ∧ IsP n py ∧ IsP n pu := fun i z hz => by
      match i, hz with
      | 0, hz => cases hz; exact ⟨t1, rp, q2, rr, _, _, _, rfl, g1, gp, gq, gr, hP, hQ4, hR⟩
      | 1, hz => cases hz; exact ⟨t2, rr, rp, hi, _, _, _, rfl, g2, gr, gp, ghi, hR, hP, hH⟩
      | 2, hz => cases hz; exact ⟨t3, lo, q2, rp, _, _, _, rfl, g3, glo, gq, gp, hL, hQ4, hP⟩
      | 3, hz => cases hz; exact ⟨t4, q2, rr, lo, _, _, _, rfl, g4, gq, gr, glo, hQ4, hR, hL⟩
    refine ⟨L, rfl, ⟨_, sq_of (b5.ex _ _ gL)⟩, ?_⟩
    refine for_list (xs := [.ref t1, .ref t2, .ref t3, .ref t4]) (fun i σ H' => ∃ (y8 : Option V), σ = [some (.ref a), some (.ref b), some (.int n), some (.ref rp), some (.ref q2), some (.ref rr), some (.ref lo), some (.ref hi), y8, none, none, none, none, none] ∧ At b G6 H') ⟨_, rfl, b5⟩ (fun i σ H' _ hp => ?_) (fun i z σ H' hz hp => ?_) (fun σ H' hp => ?_)
    · obtain ⟨_, _, hA'⟩ := hp
      exact sq_of (hA'.ex _ _ gL)
    · obtain ⟨y8, rfl, hA'⟩ := hp
      obtain ⟨t, x, y, u, px, py, pu, rfl, gt, gx, gy, gu, hx, hy, hu⟩ := tri i z hz
      have ht := hA'.ex _ _ gt
      exact ⟨_, rfl, t, _, 0, _, rfl, rfl, st_of ht, rfl, _, rfl, t, _, 1, _, rfl, rfl, st_of ht, rfl, _, rfl, t, _, 2, _, rfl, rfl, st_of ht, rfl, n, x, y, u, px, py, pu, rfl, hA'.ex _ _ gx, hA'.ex _ _ gy, hA'.ex _ _ gu, hx, hy, hu, h1, by omega, fun H2 e2 => ⟨_, rfl, iteF ⟨_, rfl, hA'.mono e2⟩⟩⟩
    obtain ⟨y8, rfl, hA7⟩ := hp
    clear tri g1 g2 g3 g4 gL b5
    -- four rows
    refine ⟨_, rfl, _, rfl, _, rfl, _, rfl, by show 4 ≤ sizeLine; decide, fun L2 nL2 => ?_⟩
    have b6 := hA7.new (o := .lst [.ref rp, .ref q2, .ref lo, .ref hi]) nL2
    have x6 := Ex.new (o := .lst [.ref rp, .ref q2, .ref lo, .ref hi]) (hA7.nh nL2)
    have gL2 := upd_same (H := G6) (a := L2) (o := .lst [.ref rp, .ref q2, .ref lo, .ref hi])
    have gp := x6 _ _ gp
    have gq := x6 _ _ gq
    have gr := x6 _ _ gr
    have glo := x6 _ _ glo
    have ghi := x6 _ _ ghi
    have hT7 := hT6.ext x6
    generalize upd G6 L2 (.lst [.ref rp, .ref q2, .ref lo, .ref hi]) = G7 at b6 gL2 gp gq gr glo ghi hT7
    generalize upd H' L2 (.lst [.ref rp, .ref q2, .ref lo, .ref hi]) = H14 at b6 ⊢
    clear x6 nL2 hA7 hT6
    refine ⟨L2, rfl, ⟨_, sq_of (b6.ex _ _ gL2)⟩, ?_⟩
    refine for_list (xs := [.ref rp, .ref q2, .ref lo, .ref hi]) (fun i σ H' => ∃ (y8 : Option V), σ = [some (.ref a), some (.ref b), some (.int n), some (.ref rp), some (.ref q2), some (.ref rr), some (.ref lo), some (.ref hi), y8, none, none, none, none, none] ∧ At b G7 H') ⟨_, rfl, b6⟩ (fun i σ H' _ hp => ?_) (fun i z σ H' hz hp => ?_) (fun σ H' hp => ?_)
    · obtain ⟨_, _, hA'⟩ := hp
      exact sq_of (hA'.ex _ _ gL2)
    · obtain ⟨y8, rfl, hA'⟩ := hp
      obtain ⟨x, px, rfl, gx, hx⟩ : ∃ x px, z = .ref x ∧ G7 x = some (.tup (nvs px)) ∧ IsP n px := by
        match i, hz with
        | 0, hz => cases hz; exact ⟨_, _, rfl, gp, hP⟩
        | 1, hz => cases hz; exact ⟨_, _, rfl, gq, hQ4⟩
        | 2, hz => cases hz; exact ⟨_, _, rfl, glo, hL⟩
        | 3, hz => cases hz; exact ⟨_, _, rfl, ghi, hH⟩
      exact ⟨_, rfl, _, rfl, n, x, px, rfl, hA'.ex _ _ gx, hx, h1, by omega, fun H2 e2 => ⟨_, rfl, iteF ⟨_, rfl, hA'.mono e2⟩⟩⟩
    obtain ⟨y8, rfl, hA8⟩ := hp
    clear b6 gL2 glo ghi
    -- five turns
    refine ⟨_, rfl, by decide, by decide, ?_⟩
    refine for_it walk_range (fun i σ H' => ∃ (y9 : Option V) (G8 : Hp), σ = [some (.ref a), some (.ref b), some (.int n), some (.ref rp), some (.ref q2), some (.ref rr), some (.ref lo), some (.ref hi), y8, y9, none, none, none, none] ∧ At b G8 H' ∧ ExtN G7 G8 ∧ Tabs (TT AA) G8) ⟨_, G7, rfl, hA8, ExtN.refl _, hT7⟩ (fun _ _ _ _ _ => trivial) (fun i v σ H9 H10 hi2 hp hy => ?_) (fun σ H9 hp => ?_)
    · obtain ⟨y9, G8, rfl, hA9, n9, t9⟩ := hp
      obtain ⟨rfl, rfl⟩ := hy
      refine ⟨_, rfl, _, rfl, _, rfl, _, rfl, _, rfl, by show 3 ≤ sizeLine; decide, fun L3 nL3 => ?_⟩
      have c1 := hA9.new (o := .lst [.ref rp, .ref q2, .ref rr]) nL3
      have z1 := Ex.new (o := .lst [.ref rp, .ref q2, .ref rr]) (hA9.nh nL3)
      have nz1 := n9.trans (ExtN.of z1)
      refine ⟨b, .ref L3, _, _, rfl, c1, .inl ⟨L3, rfl, sq_of upd_same⟩, by show 0 < 3; decide, by show 3 < 1073741824; decide, fun vv H11 hvv hA11 => ?_⟩
      obtain ⟨x, px, rfl, gx, hx⟩ : ∃ x px, vv = .ref x ∧ G7 x = some (.tup (nvs px)) ∧ IsP n px := by
        simp only [List.mem_cons, List.not_mem_nil, or_false] at hvv
        rcases hvv with rfl | rfl | rfl
        · exact ⟨_, _, rfl, gp, hP⟩
        · exact ⟨_, _, rfl, gq, hQ4⟩
        · exact ⟨_, _, rfl, gr, hR⟩
      refine ⟨b, x, n, px, _, rfl, hA11, t9.ext z1, nz1 _ _ gx (fun _ => nofun), hx, h1, hn, fun G9 H12 hA12 n12 t12 => ⟨_, rfl, iteF ?_⟩⟩
      exact ⟨_, rfl, _, rfl, b, n, G9, rfl, hA12, t12, h1, hn, fun G10 H13 hA13 n13 t13 => ⟨_, rfl, iteF ⟨_, G10, rfl, hA13, nz1.trans (n12.trans n13), t13⟩⟩⟩
    obtain ⟨y9, G8, rfl, hA9, n9, t9⟩ := hp
    clear hA8 hT7 n9 t9 gp gq gr
    -- many cases
    refine ⟨_, rfl, b, 6, G8, rfl, hA9, by decide, by decide, fun d H10 d0 d1 hA10 => ⟨rfl, _, rfl, ite2 (fun h0 => ?_) (fun h0 => q _)⟩⟩
    refine ⟨_, rfl, b, 2400, G8, rfl, hA10, by decide, by decide, fun u H11 u0 u1 hA11 => ⟨1, u, rfl, rfl, _, rfl, b, 2400, G8, rfl, hA11, by decide, by decide, fun v H12 v0 v1 hA12 => ⟨1, v, rfl, rfl, _, _, rfl, ?_⟩⟩⟩
    obtain ⟨u, rfl⟩ : ∃ k : Nat, u = (k : Int) := ⟨u.toNat, by omega⟩
    obtain ⟨v, rfl⟩ : ∃ k : Nat, v = (k : Int) := ⟨v.toNat, by omega⟩
    have hN : inN 2400 [(1 + u, 1 + v), (2400, 1 + u)] := fun xy h => by
      simp only [List.mem_cons, List.not_mem_nil, or_false] at h
      rcases h with rfl | rfl
      · show (1 ≤ 1 + u ∧ 1 + u ≤ 2400) ∧ 1 ≤ 1 + v ∧ 1 + v ≤ 2400
        omega
      · show (1 ≤ 2400 ∧ 2400 ≤ 2400) ∧ 1 ≤ 1 + u ∧ 1 + u ≤ 2400
        omega
    have hW : IsP 2400 (mrgs (alone 2400) [(1 + u, 1 + v), (2400, 1 + u)]) := isP_mrgs (isP_alone 2400) hN
    have hit : itm (mrgs (alone 2400) [(1 + u, 1 + v), (2400, 1 + u)]) (1 + v) = min (1 + u) (1 + v) := wide_item ⟨by omega, by omega⟩ ⟨by omega, by omega⟩
    refine ⟨_, rfl, _, rfl, by show 2 ≤ sizeLine; decide, fun t1 nt1 => ⟨_, rfl, by show 2 ≤ sizeLine; decide, fun t2 nt2 => ⟨by show 2 ≤ sizeLine; decide, fun L nL => ?_⟩⟩⟩
    have y2 := Ex.new (o := .lst [.ref t1, .ref t2]) nL
    have y1 := (Ex.new (o := .tup [.int 2400, .int (1 + (u : Int))]) nt2).trans y2
    have k1 : _ = some (HO.tup [.int ((1 + u : Nat) : Int), .int ((1 + v : Nat) : Int)]) := y1 _ _ upd_same
    have k2 : _ = some (HO.tup [.int ((2400 : Nat) : Int), .int ((1 + u : Nat) : Int)]) := y2 _ _ upd_same
    refine ⟨_, _, _, rfl, .int _, .inr (.inr ⟨2400, L, _, pairDs [(1 + u, 1 + v), (2400, 1 + u)], rfl, by decide, by decide, rfl, .inl upd_same, prh_reps (two_prh k1 k2), by show 2 ≤ 4000; decide, .inr ⟨pairD_in hN, _, rfl, fun wd H14 e14 nwd gwd => ⟨_, rfl, _, rfl, _, _, rfl, _, _, rfl, ?_⟩⟩⟩)⟩
    clear k1 k2 y1 y2 e14 nL nt1 nt2
    refine ⟨2400, rfl, by decide, fun al nal => ⟨_, rfl, _, rfl, by show 2 ≤ sizeLine; decide, fun t3 nt3 => ⟨_, rfl, by show 2 ≤ sizeLine; decide, fun t4 nt4 => ⟨by show 2 ≤ sizeLine; decide, fun L2 nL2 => ?_⟩⟩⟩⟩
    have z3 := Ex.new (o := .lst [.ref t3, .ref t4]) nL2
    have z2 := (Ex.new (o := .tup [.int 2400, .int (1 + (u : Int))]) nt4).trans z3
    have z1 := (Ex.new (o := .tup [.int (1 + (u : Int)), .int (1 + (v : Int))]) nt3).trans z2
    have z0 := (Ex.new (o := .tup (nvs (alone 2400))) nal).trans z1
    have k1 : _ = some (HO.tup [.int ((1 + u : Nat) : Int), .int ((1 + v : Nat) : Int)]) := z2 _ _ upd_same
    have k2 : _ = some (HO.tup [.int ((2400 : Nat) : Int), .int ((1 + u : Nat) : Int)]) := z3 _ _ upd_same
    refine ⟨2400, al, L2, alone 2400, _, _, rfl, by decide, st_of (z1 _ _ upd_same), isP_alone 2400, sq_of upd_same, (two_prh k1 k2).to, hN, fun dq H16 e16 ndq gdq => ?_⟩
    have gwd := e16 _ _ (z0 _ _ gwd)
    clear k1 k2 z0 z1 z2 z3 nal nt3 nt4 nL2 ndq
    refine ⟨_, rfl, _, rfl, _, _, rfl, nvs_sm gwd gdq (by rw [hW.len]; decide), fun H17 e17 => ⟨_, rfl, iteT ?_⟩⟩
    refine ⟨_, rfl, .ref wd, _, rfl, rep_of_nvs (e17 _ _ gwd), fun ds hd => by
      cases hd
      exact (okV_nats hW (by decide)).part, fun H18 e18 => ⟨_, _, rfl, rfl, _, rfl, iteDT (partD_of hW (by decide)) ?_⟩⟩
    refine ⟨2400, rfl, by decide, fun ap nap => ⟨_, rfl, ?_⟩⟩
    have x19 := Ex.new (o := .tup (nvs (alone 2400))) nap
    refine ⟨_, _, _, _, rfl, rep_of_nvs (upd_same (a := ap) (o := .tup (nvs (alone 2400)))), okV_nats (isP_alone 2400) (by decide), rep_of_nvs (x19 _ _ (e18 _ _ (e17 _ _ gwd))), okV_nats hW (by decide), .inl ⟨2400, _, _, rfl, rfl, by decide, by decide, isP_alone 2400, hW, fun H20 e20 => ⟨_, _, rfl, rfl, _, rfl, iteDT (inn_yes (isP_alone 2400) le_alone) ?_⟩⟩⟩
    have gdq := e20 _ _ (x19 _ _ (e18 _ _ (e17 _ _ gdq)))
    have hat : atI (nvs (mrgs (alone 2400) [(1 + u, 1 + v), (2400, 1 + u)])) (1 + (v : Int) - 1) = some (.int (itm (mrgs (alone 2400) [(1 + u, 1 + v), (2400, 1 + u)]) (1 + v) : Nat)) := by
      rw [show (1 : Int) + (v : Int) - 1 = ((v : Nat) : Int) by omega]
      have := itm_get (p := mrgs (alone 2400) [(1 + u, 1 + v), (2400, 1 + u)]) (x := 1 + v) (by omega) (by rw [hW.len]; omega)
      rw [show 1 + v - 1 = v by omega] at this
      exact atI_nat (nvs_get this)
    refine ⟨_, rfl, _, rfl, _, rfl, _, 1, rfl, rfl, dq, _, _, _, rfl, rfl, st_of gdq, hat, rfl, ?_⟩
    have fin : decide (V.int (if (1 : Int) + (v : Int) < 1 + (u : Int) then 1 + (v : Int) else 1 + (u : Int)) = V.int (itm (mrgs (alone 2400) [(1 + u, 1 + v), (2400, 1 + u)]) (1 + v) : Nat)) = true := by
      rw [hit]
      refine decide_eq_true ?_
      congr 1
      by_cases g : (1 : Int) + (v : Int) < 1 + (u : Int)
      · rw [if_pos g]
        omega
      · rw [if_neg g]
        omega
    show Q (V.bl (decide (V.int (if (1 : Int) + (v : Int) < 1 + (u : Int) then 1 + (v : Int) else 1 + (u : Int)) = V.int (itm (mrgs (alone 2400) [(1 + u, 1 + v), (2400, 1 + u)]) (1 + v) : Nat)))) _
    rw [fin]
    exact q _
end
end Eyes

set_option Elab.async false
set_option linter.all false
set_option maxRecDepth 100000
namespace Eyes
open PySem PySem.Spec PyProof.Rows L2
set_option maxHeartbeats 0 in
theorem txt_mk {K : PySem.W.Frag} {h : Heap} {mg : Str → Option Value} (X : K.In h) (G : h.Ns mainGlobals mg) {z_Circle : Addr} {z_InvalidName : Addr} {z_InvalidNumber : Addr} {z_InvalidText : Addr} {z_InvalidCircle : Addr} {z_InvalidTie : Addr} {z_InvalidParting : Addr} {z_InvalidCase : Addr} {z_TooMany : Addr} {z_cdA : Addr} {z_tbA : Addr} {z_cdB : Addr} {z_tbB : Addr} {t21 : Tok} {t22 : Tok} {t23 : Tok} {t24 : Tok} {t35 : Tok} {t36 : Tok} {f37 : Addr} {oc37 : Value} {od37 : Option Addr} {an37 : Option Addr} {sl37 : Array (Option Value)} {kV37 : Value} {dc37 : Value} {pm37 : Value} {cd37 : Value} {ct37 : Value} {f38 : Addr} {oc38 : Value} {od38 : Option Addr} {an38 : Option Addr} {sl38 : Array (Option Value)} {kV38 : Value} {dc38 : Value} {pm38 : Value} {cd38 : Value} {ct38 : Value} {f39 : Addr} {oc39 : Value} {od39 : Option Addr} {an39 : Option Addr} {sl39 : Array (Option Value)} {kV39 : Value} {dc39 : Value} {pm39 : Value} {cd39 : Value} {ct39 : Value} {f40 : Addr} {oc40 : Value} {od40 : Option Addr} {an40 : Option Addr} {sl40 : Array (Option Value)} {kV40 : Value} {dc40 : Value} {pm40 : Value} {cd40 : Value} {ct40 : Value} {f41 : Addr} {oc41 : Value} {od41 : Option Addr} {an41 : Option Addr} {sl41 : Array (Option Value)} {kV41 : Value} {dc41 : Value} {pm41 : Value} {cd41 : Value} {ct41 : Value} {f42 : Addr} {oc42 : Value} {od42 : Option Addr} {an42 : Option Addr} {sl42 : Array (Option Value)} {kV42 : Value} {dc42 : Value} {pm42 : Value} {cd42 : Value} {ct42 : Value} {f43 : Addr} {oc43 : Value} {od43 : Option Addr} {an43 : Option Addr} {sl43 : Array (Option Value)} {kV43 : Value} {dc43 : Value} {pm43 : Value} {cd43 : Value} {ct43 : Value} {f44 : Addr} {oc44 : Value} {od44 : Option Addr} {an44 : Option Addr} {sl44 : Array (Option Value)} {kV44 : Value} {dc44 : Value} {pm44 : Value} {cd44 : Value} {ct44 : Value} {f45 : Addr} {oc45 : Value} {od45 : Option Addr} {an45 : Option Addr} {sl45 : Array (Option Value)} {kV45 : Value} {dc45 : Value} {pm45 : Value} {cd45 : Value} {ct45 : Value} {nm45 : Str} {qn45 : Str} {nn45 : Addr} {bs45 : List Value} {bm45 : List Value} {sb45 : List Value} {sn45 : List Str} {ab45 : Bool} {co45 : Option Bool} {dd45 : Option Addr} {k045 : Option Value} {k145 : Option Value} {k245 : Option Value} {k345 : Option Value} {k545 : Option Value} {f47 : Addr} {oc47 : Value} {od47 : Option Addr} {an47 : Option Addr} {sl47 : Array (Option Value)} {kV47 : Value} {dc47 : Value} {pm47 : Value} {cd47 : Value} {ct47 : Value} {nm47 : Str} {qn47 : Str} {nn47 : Addr} {bs47 : List Value} {bm47 : List Value} {sb47 : List Value} {sn47 : List Str} {ab47 : Bool} {co47 : Option Bool} {dd47 : Option Addr} {k047 : Option Value} {k147 : Option Value} {k247 : Option Value} {k347 : Option Value} {k547 : Option Value} {f49 : Addr} {oc49 : Value} {od49 : Option Addr} {an49 : Option Addr} {sl49 : Array (Option Value)} {kV49 : Value} {dc49 : Value} {pm49 : Value} {cd49 : Value} {ct49 : Value} {nm49 : Str} {qn49 : Str} {nn49 : Addr} {bs49 : List Value} {bm49 : List Value} {sb49 : List Value} {sn49 : List Str} {ab49 : Bool} {co49 : Option Bool} {dd49 : Option Addr} {k049 : Option Value} {k149 : Option Value} {k249 : Option Value} {k349 : Option Value} {k549 : Option Value} {f51 : Addr} {oc51 : Value} {od51 : Option Addr} {an51 : Option Addr} {sl51 : Array (Option Value)} {kV51 : Value} {dc51 : Value} {pm51 : Value} {cd51 : Value} {ct51 : Value} {nm51 : Str} {qn51 : Str} {nn51 : Addr} {bs51 : List Value} {bm51 : List Value} {sb51 : List Value} {sn51 : List Str} {ab51 : Bool} {co51 : Option Bool} {dd51 : Option Addr} {k051 : Option Value} {k151 : Option Value} {k251 : Option Value} {k351 : Option Value} {k551 : Option Value} {f53 : Addr} {oc53 : Value} {od53 : Option Addr} {an53 : Option Addr} {sl53 : Array (Option Value)} {kV53 : Value} {dc53 : Value} {pm53 : Value} {cd53 : Value} {ct53 : Value} {nm53 : Str} {qn53 : Str} {nn53 : Addr} {bs53 : List Value} {bm53 : List Value} {sb53 : List Value} {sn53 : List Str} {ab53 : Bool} {co53 : Option Bool} {dd53 : Option Addr} {k053 : Option Value} {k153 : Option Value} {k253 : Option Value} {k353 : Option Value} {k553 : Option Value} {f55 : Addr} {oc55 : Value} {od55 : Option Addr} {an55 : Option Addr} {sl55 : Array (Option Value)} {kV55 : Value} {dc55 : Value} {pm55 : Value} {cd55 : Value} {ct55 : Value} {nm55 : Str} {qn55 : Str} {nn55 : Addr} {bs55 : List Value} {bm55 : List Value} {sb55 : List Value} {sn55 : List Str} {ab55 : Bool} {co55 : Option Bool} {dd55 : Option Addr} {k055 : Option Value} {k155 : Option Value} {k255 : Option Value} {k355 : Option Value} {k555 : Option Value} {f57 : Addr} {oc57 : Value} {od57 : Option Addr} {an57 : Option Addr} {sl57 : Array (Option Value)} {kV57 : Value} {dc57 : Value} {pm57 : Value} {cd57 : Value} {ct57 : Value} {nm57 : Str} {qn57 : Str} {nn57 : Addr} {bs57 : List Value} {bm57 : List Value} {sb57 : List Value} {sn57 : List Str} {ab57 : Bool} {co57 : Option Bool} {dd57 : Option Addr} {k057 : Option Value} {k157 : Option Value} {k257 : Option Value} {k357 : Option Value} {k557 : Option Value} {f59 : Addr} {oc59 : Value} {od59 : Option Addr} {an59 : Option Addr} {sl59 : Array (Option Value)} {kV59 : Value} {dc59 : Value} {pm59 : Value} {cd59 : Value} {ct59 : Value} {nm59 : Str} {qn59 : Str} {nn59 : Addr} {bs59 : List Value} {bm59 : List Value} {sb59 : List Value} {sn59 : List Str} {ab59 : Bool} {co59 : Option Bool} {dd59 : Option Addr} {k059 : Option Value} {k159 : Option Value} {k259 : Option Value} {k359 : Option Value} {k559 : Option Value} {f91 : Addr} {oc91 : Value} {od91 : Option Addr} {an91 : Option Addr} {sl91 : Array (Option Value)} {kV91 : Value} {dc91 : Value} {pm91 : Value} {cd91 : Value} {ct91 : Value} {f92 : Addr} {oc92 : Value} {od92 : Option Addr} {an92 : Option Addr} {sl92 : Array (Option Value)} {kV92 : Value} {dc92 : Value} {pm92 : Value} {cd92 : Value} {ct92 : Value} {f93 : Addr} {oc93 : Value} {od93 : Option Addr} {an93 : Option Addr} {sl93 : Array (Option Value)} {kV93 : Value} {dc93 : Value} {pm93 : Value} {cd93 : Value} {ct93 : Value} {f94 : Addr} {oc94 : Value} {od94 : Option Addr} {an94 : Option Addr} {sl94 : Array (Option Value)} {kV94 : Value} {dc94 : Value} {pm94 : Value} {cd94 : Value} {ct94 : Value} {f95 : Addr} {oc95 : Value} {od95 : Option Addr} {an95 : Option Addr} {sl95 : Array (Option Value)} {kV95 : Value} {dc95 : Value} {pm95 : Value} {cd95 : Value} {ct95 : Value} {f96 : Addr} {oc96 : Value} {od96 : Option Addr} {an96 : Option Addr} {sl96 : Array (Option Value)} {kV96 : Value} {dc96 : Value} {pm96 : Value} {cd96 : Value} {ct96 : Value} {f97 : Addr} {oc97 : Value} {od97 : Option Addr} {an97 : Option Addr} {sl97 : Array (Option Value)} {kV97 : Value} {dc97 : Value} {pm97 : Value} {cd97 : Value} {ct97 : Value} {f98 : Addr} {oc98 : Value} {od98 : Option Addr} {an98 : Option Addr} {sl98 : Array (Option Value)} {kV98 : Value} {dc98 : Value} {pm98 : Value} {cd98 : Value} {ct98 : Value} {f99 : Addr} {oc99 : Value} {od99 : Option Addr} {an99 : Option Addr} {sl99 : Array (Option Value)} {kV99 : Value} {dc99 : Value} {pm99 : Value} {cd99 : Value} {ct99 : Value} {f100 : Addr} {oc100 : Value} {od100 : Option Addr} {an100 : Option Addr} {sl100 : Array (Option Value)} {kV100 : Value} {dc100 : Value} {pm100 : Value} {cd100 : Value} {ct100 : Value} {f101 : Addr} {oc101 : Value} {od101 : Option Addr} {an101 : Option Addr} {sl101 : Array (Option Value)} {kV101 : Value} {dc101 : Value} {pm101 : Value} {cd101 : Value} {ct101 : Value} {f102 : Addr} {oc102 : Value} {od102 : Option Addr} {an102 : Option Addr} {sl102 : Array (Option Value)} {kV102 : Value} {dc102 : Value} {pm102 : Value} {cd102 : Value} {ct102 : Value} {f103 : Addr} {oc103 : Value} {od103 : Option Addr} {an103 : Option Addr} {sl103 : Array (Option Value)} {kV103 : Value} {dc103 : Value} {pm103 : Value} {cd103 : Value} {ct103 : Value} {f104 : Addr} {oc104 : Value} {od104 : Option Addr} {an104 : Option Addr} {sl104 : Array (Option Value)} {kV104 : Value} {dc104 : Value} {pm104 : Value} {cd104 : Value} {ct104 : Value} {f105 : Addr} {oc105 : Value} {od105 : Option Addr} {an105 : Option Addr} {sl105 : Array (Option Value)} {kV105 : Value} {dc105 : Value} {pm105 : Value} {cd105 : Value} {ct105 : Value} {f106 : Addr} {oc106 : Value} {od106 : Option Addr} {an106 : Option Addr} {sl106 : Array (Option Value)} {kV106 : Value} {dc106 : Value} {pm106 : Value} {cd106 : Value} {ct106 : Value} {f107 : Addr} {oc107 : Value} {od107 : Option Addr} {an107 : Option Addr} {sl107 : Array (Option Value)} {kV107 : Value} {dc107 : Value} {pm107 : Value} {cd107 : Value} {ct107 : Value} {f108 : Addr} {oc108 : Value} {od108 : Option Addr} {an108 : Option Addr} {sl108 : Array (Option Value)} {kV108 : Value} {dc108 : Value} {pm108 : Value} {cd108 : Value} {ct108 : Value} {f109 : Addr} {oc109 : Value} {od109 : Option Addr} {an109 : Option Addr} {sl109 : Array (Option Value)} {kV109 : Value} {dc109 : Value} {pm109 : Value} {cd109 : Value} {ct109 : Value} {f110 : Addr} {oc110 : Value} {od110 : Option Addr} {an110 : Option Addr} {sl110 : Array (Option Value)} {kV110 : Value} {dc110 : Value} {pm110 : Value} {cd110 : Value} {ct110 : Value} {f111 : Addr} {oc111 : Value} {od111 : Option Addr} {an111 : Option Addr} {sl111 : Array (Option Value)} {kV111 : Value} {dc111 : Value} {pm111 : Value} {cd111 : Value} {ct111 : Value} {f112 : Addr} {oc112 : Value} {od112 : Option Addr} {an112 : Option Addr} {sl112 : Array (Option Value)} {kV112 : Value} {dc112 : Value} {pm112 : Value} {cd112 : Value} {ct112 : Value} {f113 : Addr} {oc113 : Value} {od113 : Option Addr} {an113 : Option Addr} {sl113 : Array (Option Value)} {kV113 : Value} {dc113 : Value} {pm113 : Value} {cd113 : Value} {ct113 : Value} {f114 : Addr} {oc114 : Value} {od114 : Option Addr} {an114 : Option Addr} {sl114 : Array (Option Value)} {kV114 : Value} {dc114 : Value} {pm114 : Value} {cd114 : Value} {ct114 : Value} {f115 : Addr} {oc115 : Value} {od115 : Option Addr} {an115 : Option Addr} {sl115 : Array (Option Value)} {kV115 : Value} {dc115 : Value} {pm115 : Value} {cd115 : Value} {ct115 : Value} {f116 : Addr} {oc116 : Value} {od116 : Option Addr} {an116 : Option Addr} {sl116 : Array (Option Value)} {kV116 : Value} {dc116 : Value} {pm116 : Value} {cd116 : Value} {ct116 : Value} {f117 : Addr} {oc117 : Value} {od117 : Option Addr} {an117 : Option Addr} {sl117 : Array (Option Value)} {kV117 : Value} {dc117 : Value} {pm117 : Value} {cd117 : Value} {ct117 : Value} {f118 : Addr} {oc118 : Value} {od118 : Option Addr} {an118 : Option Addr} {sl118 : Array (Option Value)} {kV118 : Value} {dc118 : Value} {pm118 : Value} {cd118 : Value} {ct118 : Value} {f119 : Addr} {oc119 : Value} {od119 : Option Addr} {an119 : Option Addr} {sl119 : Array (Option Value)} {kV119 : Value} {dc119 : Value} {pm119 : Value} {cd119 : Value} {ct119 : Value} {f120 : Addr} {oc120 : Value} {od120 : Option Addr} {an120 : Option Addr} {sl120 : Array (Option Value)} {kV120 : Value} {dc120 : Value} {pm120 : Value} {cd120 : Value} {ct120 : Value} {f121 : Addr} {oc121 : Value} {od121 : Option Addr} {an121 : Option Addr} {sl121 : Array (Option Value)} {kV121 : Value} {dc121 : Value} {pm121 : Value} {cd121 : Value} {ct121 : Value} {f122 : Addr} {oc122 : Value} {od122 : Option Addr} {an122 : Option Addr} {sl122 : Array (Option Value)} {kV122 : Value} {dc122 : Value} {pm122 : Value} {cd122 : Value} {ct122 : Value} {f123 : Addr} {oc123 : Value} {od123 : Option Addr} {an123 : Option Addr} {sl123 : Array (Option Value)} {kV123 : Value} {dc123 : Value} {pm123 : Value} {cd123 : Value} {ct123 : Value} {f124 : Addr} {oc124 : Value} {od124 : Option Addr} {an124 : Option Addr} {sl124 : Array (Option Value)} {kV124 : Value} {dc124 : Value} {pm124 : Value} {cd124 : Value} {ct124 : Value} {f125 : Addr} {oc125 : Value} {od125 : Option Addr} {an125 : Option Addr} {sl125 : Array (Option Value)} {kV125 : Value} {dc125 : Value} {pm125 : Value} {cd125 : Value} {ct125 : Value} {f126 : Addr} {oc126 : Value} {od126 : Option Addr} {an126 : Option Addr} {sl126 : Array (Option Value)} {kV126 : Value} {dc126 : Value} {pm126 : Value} {cd126 : Value} {ct126 : Value} {f127 : Addr} {oc127 : Value} {od127 : Option Addr} {an127 : Option Addr} {sl127 : Array (Option Value)} {kV127 : Value} {dc127 : Value} {pm127 : Value} {cd127 : Value} {ct127 : Value} {f128 : Addr} {oc128 : Value} {od128 : Option Addr} {an128 : Option Addr} {sl128 : Array (Option Value)} {kV128 : Value} {dc128 : Value} {pm128 : Value} {cd128 : Value} {ct128 : Value} {f129 : Addr} {oc129 : Value} {od129 : Option Addr} {an129 : Option Addr} {sl129 : Array (Option Value)} {kV129 : Value} {dc129 : Value} {pm129 : Value} {cd129 : Value} {ct129 : Value} {f130 : Addr} {oc130 : Value} {od130 : Option Addr} {an130 : Option Addr} {sl130 : Array (Option Value)} {kV130 : Value} {dc130 : Value} {pm130 : Value} {cd130 : Value} {ct130 : Value} {f131 : Addr} {oc131 : Value} {od131 : Option Addr} {an131 : Option Addr} {sl131 : Array (Option Value)} {kV131 : Value} {dc131 : Value} {pm131 : Value} {cd131 : Value} {ct131 : Value} {f132 : Addr} {oc132 : Value} {od132 : Option Addr} {an132 : Option Addr} {sl132 : Array (Option Value)} {kV132 : Value} {dc132 : Value} {pm132 : Value} {cd132 : Value} {ct132 : Value} {f133 : Addr} {oc133 : Value} {od133 : Option Addr} {an133 : Option Addr} {sl133 : Array (Option Value)} {kV133 : Value} {dc133 : Value} {pm133 : Value} {cd133 : Value} {ct133 : Value} {f134 : Addr} {oc134 : Value} {od134 : Option Addr} {an134 : Option Addr} {sl134 : Array (Option Value)} {kV134 : Value} {dc134 : Value} {pm134 : Value} {cd134 : Value} {ct134 : Value} {f135 : Addr} {oc135 : Value} {od135 : Option Addr} {an135 : Option Addr} {sl135 : Array (Option Value)} {kV135 : Value} {dc135 : Value} {pm135 : Value} {cd135 : Value} {ct135 : Value} {f136 : Addr} {oc136 : Value} {od136 : Option Addr} {an136 : Option Addr} {sl136 : Array (Option Value)} {kV136 : Value} {dc136 : Value} {pm136 : Value} {cd136 : Value} {ct136 : Value} {f137 : Addr} {oc137 : Value} {od137 : Option Addr} {an137 : Option Addr} {sl137 : Array (Option Value)} {kV137 : Value} {dc137 : Value} {pm137 : Value} {cd137 : Value} {ct137 : Value} {f138 : Addr} {oc138 : Value} {od138 : Option Addr} {an138 : Option Addr} {sl138 : Array (Option Value)} {kV138 : Value} {dc138 : Value} {pm138 : Value} {ct138 : Value} {f139 : Addr} {oc139 : Value} {od139 : Option Addr} {an139 : Option Addr} {sl139 : Array (Option Value)} {kV139 : Value} {dc139 : Value} {pm139 : Value} {ct139 : Value} {f140 : Addr} {oc140 : Value} {od140 : Option Addr} {an140 : Option Addr} {sl140 : Array (Option Value)} {kV140 : Value} {dc140 : Value} {pm140 : Value} {cd140 : Value} {ct140 : Value} {o141 : Obj} {vs141 : Array Value} {fi141 : Str} {tf141 : Tok} {fl141 : Int} {tg141 : Tok} {nf141 : Bool} {tx141 : Int} {tt141 : Tok} {o144 : Obj} {vs144 : Array Value} {fi144 : Str} {tf144 : Tok} {fl144 : Int} {tg144 : Tok} {nf144 : Bool} {tx144 : Int} {tt144 : Tok}
    (h1 : PySem.W.nsIn K mainGlobals "isinstance" = some none)
    (h2 : PySem.W.nsIn K mainGlobals "str" = some none)
    (h3 : PySem.W.nsIn K mainGlobals "len" = some none)
    (h4 : PySem.W.nsIn K mainGlobals "all" = some none)
    (h5 : PySem.W.nsIn K mainGlobals "bool" = some none)
    (h6 : PySem.W.nsIn K mainGlobals "int" = some none)
    (h7 : PySem.W.nsIn K mainGlobals "tuple" = some none)
    (h8 : PySem.W.nsIn K mainGlobals "range" = some none)
    (h9 : PySem.W.nsIn K mainGlobals "list" = some none)
    (h10 : PySem.W.nsIn K mainGlobals "enumerate" = some none)
    (h11 : PySem.W.nsIn K mainGlobals "max" = some none)
    (h12 : PySem.W.nsIn K mainGlobals "min" = some none)
    (h13 : PySem.W.nsIn K mainGlobals "zip" = some none)
    (h14 : PySem.W.nsIn K mainGlobals "sum" = some none)
    (h15 : PySem.W.nsIn K mainGlobals "sorted" = some none)
    (h16 : PySem.W.nsIn K mainGlobals "set" = some none)
    (h17 : PySem.W.nsIn K mainGlobals "NotImplemented" = some none)
    (h18 : PySem.W.nsIn K mainGlobals "abs" = some none)
    (h19 : PySem.W.nsIn K mainGlobals "dict" = some none)
    (h20 : PySem.W.nsIn K mainGlobals "ValueError" = some none)
    (h21 : PySem.W.nsIn K mainGlobals "LookupError" = some none)
    (h22 : PySem.W.nsIn K mainGlobals "LETTERS" = some (some (.str "abcdefghijklmnopqrstuvwxyz" t21)))
    (h23 : PySem.W.nsIn K mainGlobals "MOST_LETTERS" = some (some (.int 6 t22)))
    (h24 : PySem.W.nsIn K mainGlobals "MOST_CASES" = some (some (.int 2400 t23)))
    (h25 : PySem.W.nsIn K mainGlobals "MOST_DEPTH" = some (some (.int 20 t24)))
    (h26 : PySem.W.nsIn K mainGlobals "Circle" = some (some (.ref z_Circle)))
    (h27 : PySem.W.plainGet K z_Circle Str.empty = true)
    (h28 : PySem.W.hasDictIn K z_Circle = true)
    (h29 : PySem.W.plainOver K z_Circle = true)
    (h30 : PySem.W.findIn K (.ref z_Circle) "__setattr__" = some (some (.builtin "object.__setattr__")))
    (h31 : PySem.W.findIn K (.ref z_Circle) "__class__" = some (some (.builtin "object.__class__")))
    (h32 : PySem.W.specialIn K (.builtin "object.__class__") "__get__" = some (some (.builtin "getset_descriptor.__get__")))
    (h33 : PySem.W.takesIn K (.builtin "object.__class__") = some true)
    (h34 : PySem.W.mroIn K z_Circle (.type "object") = some true)
    (h35 : PySem.W.subIn K (.ref z_Circle) (.type "str") = some false)
    (h36 : PySem.W.subIn K (.ref z_Circle) (.type "int") = some false)
    (h37 : PySem.W.subIn K (.ref z_Circle) (.type "bool") = some false)
    (h38 : PySem.W.subIn K (.ref z_Circle) (.type "list") = some false)
    (h39 : PySem.W.subIn K (.ref z_Circle) (.type "tuple") = some false)
    (h40 : PySem.W.subIn K (.ref z_Circle) (.type "dict") = some false)
    (h41 : PySem.W.selfFirst K z_Circle = true)
    (h42 : PySem.W.findIn K (.ref z_Circle) "kind" = some none)
    (h43 : PySem.W.findIn K (.ref z_Circle) "name" = some none)
    (h44 : PySem.W.findIn K (.ref z_Circle) "_parts" = some none)
    (h45 : PySem.W.findIn K (.ref z_Circle) "size" = some none)
    (h46 : PySem.W.findIn K (.ref z_Circle) "depth" = some none)
    (h47 : PySem.W.findIn K (.ref z_Circle) "_text" = some none)
    (h48 : PySem.W.readsIn K z_Circle (.type "type") = true)
    (h49 : PySem.W.specialIn K (.ref z_Circle) "__getattribute__" = some (some (.builtin "type.__getattribute__")))
    (h50 : PySem.W.findCls K (.ref z_Circle) (.type "type") "LIMIT" = some (.val (.int 60 t35)))
    (h51 : PySem.W.findIn K (.ref z_Circle) "LIMIT" = some (some (.int 60 t36)))
    (h52 : PySem.W.specialIn K (.int 60 t36) "__get__" = some none)
    (h53 : PySem.W.makesIn K z_Circle = true)
    (h54 : PySem.W.keepIn K (.ref z_Circle) = true)
    (h55 : PySem.W.findIn K (.ref z_Circle) "__init__" = some (some (.ref f37)))
    (h56 : PySem.W.isFn K (.ref f37) = true)
    (h57 : K.lookup f37 = some ⟨oc37, od37, .func (PySem.W.fnOf "__init__" "Circle.__init__" (defArgs s_Circle___init) (defBody s_Circle___init) (defScope s_Circle___init) .none kV37 dc37 pm37 an37 cd37 ct37), sl37⟩)
    (h58 : PySem.W.codeIn K cd37 "Circle.__init__" = true)
    (h59 : PySem.W.keepIn K (.ref f37) = true)
    (h60 : PySem.W.findIn K (.ref z_Circle) "parts" = some (some (.ref f38)))
    (h61 : PySem.W.isFn K (.ref f38) = true)
    (h62 : K.lookup f38 = some ⟨oc38, od38, .func (PySem.W.fnOf "parts" "Circle.parts" (defArgs s_Circle_parts) (defBody s_Circle_parts) (defScope s_Circle_parts) .none kV38 dc38 pm38 an38 cd38 ct38), sl38⟩)
    (h63 : PySem.W.codeIn K cd38 "Circle.parts" = true)
    (h64 : PySem.W.keepIn K (.ref f38) = true)
    (h65 : PySem.W.findIn K (.ref z_Circle) "eyes" = some (some (.ref f39)))
    (h66 : PySem.W.isFn K (.ref f39) = true)
    (h67 : K.lookup f39 = some ⟨oc39, od39, .func (PySem.W.fnOf "eyes" "Circle.eyes" (defArgs s_Circle_eyes) (defBody s_Circle_eyes) (defScope s_Circle_eyes) .none kV39 dc39 pm39 an39 cd39 ct39), sl39⟩)
    (h68 : PySem.W.codeIn K cd39 "Circle.eyes" = true)
    (h69 : PySem.W.keepIn K (.ref f39) = true)
    (h70 : PySem.W.findIn K (.ref z_Circle) "__str__" = some (some (.ref f40)))
    (h71 : PySem.W.isFn K (.ref f40) = true)
    (h72 : K.lookup f40 = some ⟨oc40, od40, .func (PySem.W.fnOf "__str__" "Circle.__str__" (defArgs s_Circle___str) (defBody s_Circle___str) (defScope s_Circle___str) .none kV40 dc40 pm40 an40 cd40 ct40), sl40⟩)
    (h73 : PySem.W.codeIn K cd40 "Circle.__str__" = true)
    (h74 : PySem.W.keepIn K (.ref f40) = true)
    (h75 : PySem.W.findIn K (.ref z_Circle) "__repr__" = some (some (.ref f41)))
    (h76 : PySem.W.isFn K (.ref f41) = true)
    (h77 : K.lookup f41 = some ⟨oc41, od41, .func (PySem.W.fnOf "__repr__" "Circle.__repr__" (defArgs s_Circle___repr) (defBody s_Circle___repr) (defScope s_Circle___repr) .none kV41 dc41 pm41 an41 cd41 ct41), sl41⟩)
    (h78 : PySem.W.codeIn K cd41 "Circle.__repr__" = true)
    (h79 : PySem.W.keepIn K (.ref f41) = true)
    (h80 : PySem.W.findIn K (.ref z_Circle) "__eq__" = some (some (.ref f42)))
    (h81 : PySem.W.isFn K (.ref f42) = true)
    (h82 : K.lookup f42 = some ⟨oc42, od42, .func (PySem.W.fnOf "__eq__" "Circle.__eq__" (defArgs s_Circle___eq) (defBody s_Circle___eq) (defScope s_Circle___eq) .none kV42 dc42 pm42 an42 cd42 ct42), sl42⟩)
    (h83 : PySem.W.codeIn K cd42 "Circle.__eq__" = true)
    (h84 : PySem.W.keepIn K (.ref f42) = true)
    (h85 : PySem.W.findIn K (.ref z_Circle) "__and__" = some (some (.ref f43)))
    (h86 : PySem.W.isFn K (.ref f43) = true)
    (h87 : K.lookup f43 = some ⟨oc43, od43, .func (PySem.W.fnOf "__and__" "Circle.__and__" (defArgs s_Circle___and) (defBody s_Circle___and) (defScope s_Circle___and) .none kV43 dc43 pm43 an43 cd43 ct43), sl43⟩)
    (h88 : PySem.W.codeIn K cd43 "Circle.__and__" = true)
    (h89 : PySem.W.keepIn K (.ref f43) = true)
    (h90 : PySem.W.findIn K (.ref z_Circle) "__or__" = some (some (.ref f44)))
    (h91 : PySem.W.isFn K (.ref f44) = true)
    (h92 : K.lookup f44 = some ⟨oc44, od44, .func (PySem.W.fnOf "__or__" "Circle.__or__" (defArgs s_Circle___or) (defBody s_Circle___or) (defScope s_Circle___or) .none kV44 dc44 pm44 an44 cd44 ct44), sl44⟩)
    (h93 : PySem.W.codeIn K cd44 "Circle.__or__" = true)
    (h94 : PySem.W.keepIn K (.ref f44) = true)
    (h95 : PySem.W.nsIn K mainGlobals "InvalidName" = some (some (.ref z_InvalidName)))
    (h96 : K.lookup z_InvalidName = some (excClassObj nm45 qn45 z_InvalidName nn45 bs45 bm45 true sn45 sb45 ab45 co45 dd45 k045 k145 k245 k345 k545 "ValueError.__new__"))
    (h97 : PySem.HandSPX.refsVE bm45 = true)
    (h98 : PySem.W.findIn K (.ref z_InvalidName) "__setattr__" = some (some (.builtin "object.__setattr__")))
    (h99 : PySem.W.subIn K (.ref z_InvalidName) (.type "BaseException") = some true)
    (h100 : PySem.W.typeIn K (.ref z_InvalidName) = some (.type "type"))
    (h101 : PySem.W.keepIn K (.ref z_InvalidName) = true)
    (h102 : xfB K z_InvalidName = true)
    (h103 : PySem.W.findIn K (.ref z_InvalidName) "__init__" = some (some (.ref f45)))
    (h104 : PySem.W.typeIn K (.ref f45) = some (.type "function"))
    (h105 : K.lookup f45 = some ⟨oc45, od45, .func (PySem.W.fnOf "__init__" "InvalidName.__init__" (defArgs s_InvalidName___init) (defBody s_InvalidName___init) (defScope s_InvalidName___init) .none kV45 dc45 pm45 an45 cd45 ct45), sl45⟩)
    (h106 : PySem.W.codeIn K cd45 "InvalidName.__init__" = true)
    (h107 : PySem.W.keepIn K (.ref f45) = true)
    (h108 : PySem.W.findIn K (.ref z_InvalidName) "value" = some none)
    (h109 : PySem.W.nsIn K mainGlobals "InvalidNumber" = some (some (.ref z_InvalidNumber)))
    (h110 : K.lookup z_InvalidNumber = some (excClassObj nm47 qn47 z_InvalidNumber nn47 bs47 bm47 true sn47 sb47 ab47 co47 dd47 k047 k147 k247 k347 k547 "ValueError.__new__"))
    (h111 : PySem.HandSPX.refsVE bm47 = true)
    (h112 : PySem.W.findIn K (.ref z_InvalidNumber) "__setattr__" = some (some (.builtin "object.__setattr__")))
    (h113 : PySem.W.subIn K (.ref z_InvalidNumber) (.type "BaseException") = some true)
    (h114 : PySem.W.typeIn K (.ref z_InvalidNumber) = some (.type "type"))
    (h115 : PySem.W.keepIn K (.ref z_InvalidNumber) = true)
    (h116 : xfB K z_InvalidNumber = true)
    (h117 : PySem.W.findIn K (.ref z_InvalidNumber) "__init__" = some (some (.ref f47)))
    (h118 : PySem.W.typeIn K (.ref f47) = some (.type "function"))
    (h119 : K.lookup f47 = some ⟨oc47, od47, .func (PySem.W.fnOf "__init__" "InvalidNumber.__init__" (defArgs s_InvalidNumber___init) (defBody s_InvalidNumber___init) (defScope s_InvalidNumber___init) .none kV47 dc47 pm47 an47 cd47 ct47), sl47⟩)
    (h120 : PySem.W.codeIn K cd47 "InvalidNumber.__init__" = true)
    (h121 : PySem.W.keepIn K (.ref f47) = true)
    (h122 : PySem.W.findIn K (.ref z_InvalidNumber) "value" = some none)
    (h123 : PySem.W.nsIn K mainGlobals "InvalidText" = some (some (.ref z_InvalidText)))
    (h124 : K.lookup z_InvalidText = some (excClassObj nm49 qn49 z_InvalidText nn49 bs49 bm49 true sn49 sb49 ab49 co49 dd49 k049 k149 k249 k349 k549 "ValueError.__new__"))
    (h125 : PySem.HandSPX.refsVE bm49 = true)
    (h126 : PySem.W.findIn K (.ref z_InvalidText) "__setattr__" = some (some (.builtin "object.__setattr__")))
    (h127 : PySem.W.subIn K (.ref z_InvalidText) (.type "BaseException") = some true)
    (h128 : PySem.W.typeIn K (.ref z_InvalidText) = some (.type "type"))
    (h129 : PySem.W.keepIn K (.ref z_InvalidText) = true)
    (h130 : xfB K z_InvalidText = true)
    (h131 : PySem.W.findIn K (.ref z_InvalidText) "__init__" = some (some (.ref f49)))
    (h132 : PySem.W.typeIn K (.ref f49) = some (.type "function"))
    (h133 : K.lookup f49 = some ⟨oc49, od49, .func (PySem.W.fnOf "__init__" "InvalidText.__init__" (defArgs s_InvalidText___init) (defBody s_InvalidText___init) (defScope s_InvalidText___init) .none kV49 dc49 pm49 an49 cd49 ct49), sl49⟩)
    (h134 : PySem.W.codeIn K cd49 "InvalidText.__init__" = true)
    (h135 : PySem.W.keepIn K (.ref f49) = true)
    (h136 : PySem.W.findIn K (.ref z_InvalidText) "at" = some none)
    (h137 : PySem.W.nsIn K mainGlobals "InvalidCircle" = some (some (.ref z_InvalidCircle)))
    (h138 : K.lookup z_InvalidCircle = some (excClassObj nm51 qn51 z_InvalidCircle nn51 bs51 bm51 true sn51 sb51 ab51 co51 dd51 k051 k151 k251 k351 k551 "ValueError.__new__"))
    (h139 : PySem.HandSPX.refsVE bm51 = true)
    (h140 : PySem.W.findIn K (.ref z_InvalidCircle) "__setattr__" = some (some (.builtin "object.__setattr__")))
    (h141 : PySem.W.subIn K (.ref z_InvalidCircle) (.type "BaseException") = some true)
    (h142 : PySem.W.typeIn K (.ref z_InvalidCircle) = some (.type "type"))
    (h143 : PySem.W.keepIn K (.ref z_InvalidCircle) = true)
    (h144 : xfB K z_InvalidCircle = true)
    (h145 : PySem.W.findIn K (.ref z_InvalidCircle) "__init__" = some (some (.ref f51)))
    (h146 : PySem.W.typeIn K (.ref f51) = some (.type "function"))
    (h147 : K.lookup f51 = some ⟨oc51, od51, .func (PySem.W.fnOf "__init__" "InvalidCircle.__init__" (defArgs s_InvalidCircle___init) (defBody s_InvalidCircle___init) (defScope s_InvalidCircle___init) .none kV51 dc51 pm51 an51 cd51 ct51), sl51⟩)
    (h148 : PySem.W.codeIn K cd51 "InvalidCircle.__init__" = true)
    (h149 : PySem.W.keepIn K (.ref f51) = true)
    (h150 : PySem.W.findIn K (.ref z_InvalidCircle) "at" = some none)
    (h151 : PySem.W.nsIn K mainGlobals "InvalidTie" = some (some (.ref z_InvalidTie)))
    (h152 : K.lookup z_InvalidTie = some (excClassObj nm53 qn53 z_InvalidTie nn53 bs53 bm53 true sn53 sb53 ab53 co53 dd53 k053 k153 k253 k353 k553 "ValueError.__new__"))
    (h153 : PySem.HandSPX.refsVE bm53 = true)
    (h154 : PySem.W.findIn K (.ref z_InvalidTie) "__setattr__" = some (some (.builtin "object.__setattr__")))
    (h155 : PySem.W.subIn K (.ref z_InvalidTie) (.type "BaseException") = some true)
    (h156 : PySem.W.typeIn K (.ref z_InvalidTie) = some (.type "type"))
    (h157 : PySem.W.keepIn K (.ref z_InvalidTie) = true)
    (h158 : xfB K z_InvalidTie = true)
    (h159 : PySem.W.findIn K (.ref z_InvalidTie) "__init__" = some (some (.ref f53)))
    (h160 : PySem.W.typeIn K (.ref f53) = some (.type "function"))
    (h161 : K.lookup f53 = some ⟨oc53, od53, .func (PySem.W.fnOf "__init__" "InvalidTie.__init__" (defArgs s_InvalidTie___init) (defBody s_InvalidTie___init) (defScope s_InvalidTie___init) .none kV53 dc53 pm53 an53 cd53 ct53), sl53⟩)
    (h162 : PySem.W.codeIn K cd53 "InvalidTie.__init__" = true)
    (h163 : PySem.W.keepIn K (.ref f53) = true)
    (h164 : PySem.W.findIn K (.ref z_InvalidTie) "at" = some none)
    (h165 : PySem.W.nsIn K mainGlobals "InvalidParting" = some (some (.ref z_InvalidParting)))
    (h166 : K.lookup z_InvalidParting = some (excClassObj nm55 qn55 z_InvalidParting nn55 bs55 bm55 true sn55 sb55 ab55 co55 dd55 k055 k155 k255 k355 k555 "ValueError.__new__"))
    (h167 : PySem.HandSPX.refsVE bm55 = true)
    (h168 : PySem.W.findIn K (.ref z_InvalidParting) "__setattr__" = some (some (.builtin "object.__setattr__")))
    (h169 : PySem.W.subIn K (.ref z_InvalidParting) (.type "BaseException") = some true)
    (h170 : PySem.W.typeIn K (.ref z_InvalidParting) = some (.type "type"))
    (h171 : PySem.W.keepIn K (.ref z_InvalidParting) = true)
    (h172 : xfB K z_InvalidParting = true)
    (h173 : PySem.W.findIn K (.ref z_InvalidParting) "__init__" = some (some (.ref f55)))
    (h174 : PySem.W.typeIn K (.ref f55) = some (.type "function"))
    (h175 : K.lookup f55 = some ⟨oc55, od55, .func (PySem.W.fnOf "__init__" "InvalidParting.__init__" (defArgs s_InvalidParting___init) (defBody s_InvalidParting___init) (defScope s_InvalidParting___init) .none kV55 dc55 pm55 an55 cd55 ct55), sl55⟩)
    (h176 : PySem.W.codeIn K cd55 "InvalidParting.__init__" = true)
    (h177 : PySem.W.keepIn K (.ref f55) = true)
    (h178 : PySem.W.findIn K (.ref z_InvalidParting) "value" = some none)
    (h179 : PySem.W.nsIn K mainGlobals "InvalidCase" = some (some (.ref z_InvalidCase)))
    (h180 : K.lookup z_InvalidCase = some (excClassObj nm57 qn57 z_InvalidCase nn57 bs57 bm57 true sn57 sb57 ab57 co57 dd57 k057 k157 k257 k357 k557 "ValueError.__new__"))
    (h181 : PySem.HandSPX.refsVE bm57 = true)
    (h182 : PySem.W.findIn K (.ref z_InvalidCase) "__setattr__" = some (some (.builtin "object.__setattr__")))
    (h183 : PySem.W.subIn K (.ref z_InvalidCase) (.type "BaseException") = some true)
    (h184 : PySem.W.typeIn K (.ref z_InvalidCase) = some (.type "type"))
    (h185 : PySem.W.keepIn K (.ref z_InvalidCase) = true)
    (h186 : xfB K z_InvalidCase = true)
    (h187 : PySem.W.findIn K (.ref z_InvalidCase) "__init__" = some (some (.ref f57)))
    (h188 : PySem.W.typeIn K (.ref f57) = some (.type "function"))
    (h189 : K.lookup f57 = some ⟨oc57, od57, .func (PySem.W.fnOf "__init__" "InvalidCase.__init__" (defArgs s_InvalidCase___init) (defBody s_InvalidCase___init) (defScope s_InvalidCase___init) .none kV57 dc57 pm57 an57 cd57 ct57), sl57⟩)
    (h190 : PySem.W.codeIn K cd57 "InvalidCase.__init__" = true)
    (h191 : PySem.W.keepIn K (.ref f57) = true)
    (h192 : PySem.W.findIn K (.ref z_InvalidCase) "value" = some none)
    (h193 : PySem.W.nsIn K mainGlobals "TooMany" = some (some (.ref z_TooMany)))
    (h194 : K.lookup z_TooMany = some (excClassObj nm59 qn59 z_TooMany nn59 bs59 bm59 true sn59 sb59 ab59 co59 dd59 k059 k159 k259 k359 k559 "ValueError.__new__"))
    (h195 : PySem.HandSPX.refsVE bm59 = true)
    (h196 : PySem.W.findIn K (.ref z_TooMany) "__setattr__" = some (some (.builtin "object.__setattr__")))
    (h197 : PySem.W.subIn K (.ref z_TooMany) (.type "BaseException") = some true)
    (h198 : PySem.W.typeIn K (.ref z_TooMany) = some (.type "type"))
    (h199 : PySem.W.keepIn K (.ref z_TooMany) = true)
    (h200 : xfB K z_TooMany = true)
    (h201 : PySem.W.findIn K (.ref z_TooMany) "__init__" = some (some (.ref f59)))
    (h202 : PySem.W.typeIn K (.ref f59) = some (.type "function"))
    (h203 : K.lookup f59 = some ⟨oc59, od59, .func (PySem.W.fnOf "__init__" "TooMany.__init__" (defArgs s_TooMany___init) (defBody s_TooMany___init) (defScope s_TooMany___init) .none kV59 dc59 pm59 an59 cd59 ct59), sl59⟩)
    (h204 : PySem.W.codeIn K cd59 "TooMany.__init__" = true)
    (h205 : PySem.W.keepIn K (.ref f59) = true)
    (h206 : PySem.W.findIn K (.ref z_TooMany) "what" = some none)
    (h207 : PySem.W.findIn K (.ref z_TooMany) "most" = some none)
    (h208 : PySem.W.exmOne K (.ref z_InvalidName) (.ref z_InvalidName) = some true)
    (h209 : PySem.W.exmOne K (.ref z_InvalidCircle) (.ref z_InvalidName) = some false)
    (h210 : PySem.W.exmOne K (.ref z_InvalidCircle) (.ref z_InvalidNumber) = some false)
    (h211 : PySem.W.exmOne K (.ref z_InvalidCircle) (.ref z_InvalidText) = some false)
    (h212 : PySem.W.exmOne K (.ref z_InvalidCircle) (.ref z_InvalidCircle) = some true)
    (h213 : PySem.W.exmOne K (.ref z_InvalidNumber) (.ref z_InvalidName) = some false)
    (h214 : PySem.W.exmOne K (.ref z_InvalidNumber) (.ref z_InvalidNumber) = some true)
    (h215 : PySem.W.exmOne K (.ref z_InvalidTie) (.ref z_InvalidName) = some false)
    (h216 : PySem.W.exmOne K (.ref z_InvalidTie) (.ref z_InvalidNumber) = some false)
    (h217 : PySem.W.exmOne K (.ref z_InvalidTie) (.ref z_InvalidText) = some false)
    (h218 : PySem.W.exmOne K (.ref z_InvalidTie) (.ref z_InvalidCircle) = some false)
    (h219 : PySem.W.exmOne K (.ref z_InvalidTie) (.ref z_InvalidTie) = some true)
    (h220 : PySem.W.exmOne K (.ref z_InvalidParting) (.ref z_InvalidName) = some false)
    (h221 : PySem.W.exmOne K (.ref z_InvalidParting) (.ref z_InvalidNumber) = some false)
    (h222 : PySem.W.exmOne K (.ref z_InvalidParting) (.ref z_InvalidText) = some false)
    (h223 : PySem.W.exmOne K (.ref z_InvalidParting) (.ref z_InvalidCircle) = some false)
    (h224 : PySem.W.exmOne K (.ref z_InvalidParting) (.ref z_InvalidTie) = some false)
    (h225 : PySem.W.exmOne K (.ref z_InvalidParting) (.ref z_InvalidParting) = some true)
    (h226 : PySem.W.kitOne K (.type "NoneType") (.ref z_Circle) = some false)
    (h227 : PySem.W.kitOne K (.type "bool") (.ref z_Circle) = some false)
    (h228 : PySem.W.kitOne K (.type "int") (.ref z_Circle) = some false)
    (h229 : PySem.W.kitOne K (.type "list") (.ref z_Circle) = some false)
    (h230 : PySem.W.kitOne K (.type "str") (.ref z_Circle) = some false)
    (h231 : PySem.W.kitOne K (.type "tuple") (.ref z_Circle) = some false)
    (h232 : PySem.W.findIn K (.ref z_Circle) "__bool__" = some none)
    (h233 : PySem.W.notFirst K z_Circle (.type "list") = true)
    (h234 : PySem.W.notFirst K z_Circle (.type "str") = true)
    (h235 : PySem.W.findIn K (.ref z_Circle) "__len__" = some none)
    (h236 : z_tbA ≠ z_tbB)
    (h237 : PySem.W.nsIn K mainGlobals "is_name" = some (some (.ref f91)))
    (h238 : K.lookup f91 = some ⟨oc91, od91, .func (PySem.W.fnOf "is_name" "is_name" (defArgs s_is_name) (defBody s_is_name) (defScope s_is_name) .none kV91 dc91 pm91 an91 cd91 ct91), sl91⟩)
    (h239 : PySem.W.codeIn K cd91 "is_name" = true)
    (h240 : PySem.W.keepIn K (.ref f91) = true)
    (h241 : PySem.W.nsIn K mainGlobals "is_number" = some (some (.ref f92)))
    (h242 : K.lookup f92 = some ⟨oc92, od92, .func (PySem.W.fnOf "is_number" "is_number" (defArgs s_is_number) (defBody s_is_number) (defScope s_is_number) .none kV92 dc92 pm92 an92 cd92 ct92), sl92⟩)
    (h243 : PySem.W.codeIn K cd92 "is_number" = true)
    (h244 : PySem.W.keepIn K (.ref f92) = true)
    (h245 : PySem.W.nsIn K mainGlobals "is_parting" = some (some (.ref f93)))
    (h246 : K.lookup f93 = some ⟨oc93, od93, .func (PySem.W.fnOf "is_parting" "is_parting" (defArgs s_is_parting) (defBody s_is_parting) (defScope s_is_parting) .none kV93 dc93 pm93 an93 cd93 ct93), sl93⟩)
    (h247 : PySem.W.codeIn K cd93 "is_parting" = true)
    (h248 : PySem.W.keepIn K (.ref f93) = true)
    (h249 : PySem.W.nsIn K mainGlobals "is_item" = some (some (.ref f94)))
    (h250 : K.lookup f94 = some ⟨oc94, od94, .func (PySem.W.fnOf "is_item" "is_item" (defArgs s_is_item) (defBody s_is_item) (defScope s_is_item) .none kV94 dc94 pm94 an94 cd94 ct94), sl94⟩)
    (h251 : PySem.W.codeIn K cd94 "is_item" = true)
    (h252 : PySem.W.keepIn K (.ref f94) = true)
    (h253 : PySem.W.nsIn K mainGlobals "apart" = some (some (.ref f95)))
    (h254 : K.lookup f95 = some ⟨oc95, od95, .func (PySem.W.fnOf "apart" "apart" (defArgs s_apart) (defBody s_apart) (defScope s_apart) .none kV95 dc95 pm95 an95 cd95 ct95), sl95⟩)
    (h255 : PySem.W.codeIn K cd95 "apart" = true)
    (h256 : PySem.W.keepIn K (.ref f95) = true)
    (h257 : PySem.W.nsIn K mainGlobals "together" = some (some (.ref f96)))
    (h258 : K.lookup f96 = some ⟨oc96, od96, .func (PySem.W.fnOf "together" "together" (defArgs s_together) (defBody s_together) (defScope s_together) .none kV96 dc96 pm96 an96 cd96 ct96), sl96⟩)
    (h259 : PySem.W.codeIn K cd96 "together" = true)
    (h260 : PySem.W.keepIn K (.ref f96) = true)
    (h261 : PySem.W.nsIn K mainGlobals "parting_of" = some (some (.ref f97)))
    (h262 : K.lookup f97 = some ⟨oc97, od97, .func (PySem.W.fnOf "parting_of" "parting_of" (defArgs s_parting_of) (defBody s_parting_of) (defScope s_parting_of) .none kV97 dc97 pm97 an97 cd97 ct97), sl97⟩)
    (h263 : PySem.W.codeIn K cd97 "parting_of" = true)
    (h264 : PySem.W.keepIn K (.ref f97) = true)
    (h265 : PySem.W.nsIn K mainGlobals "is_pair" = some (some (.ref f98)))
    (h266 : K.lookup f98 = some ⟨oc98, od98, .func (PySem.W.fnOf "is_pair" "is_pair" (defArgs s_is_pair) (defBody s_is_pair) (defScope s_is_pair) .none kV98 dc98 pm98 an98 cd98 ct98), sl98⟩)
    (h267 : PySem.W.codeIn K cd98 "is_pair" = true)
    (h268 : PySem.W.keepIn K (.ref f98) = true)
    (h269 : PySem.W.nsIn K mainGlobals "lots_of" = some (some (.ref f99)))
    (h270 : K.lookup f99 = some ⟨oc99, od99, .func (PySem.W.fnOf "lots_of" "lots_of" (defArgs s_lots_of) (defBody s_lots_of) (defScope s_lots_of) .none kV99 dc99 pm99 an99 cd99 ct99), sl99⟩)
    (h271 : PySem.W.codeIn K cd99 "lots_of" = true)
    (h272 : PySem.W.keepIn K (.ref f99) = true)
    (h273 : PySem.W.nsIn K mainGlobals "meet_of" = some (some (.ref f100)))
    (h274 : K.lookup f100 = some ⟨oc100, od100, .func (PySem.W.fnOf "meet_of" "meet_of" (defArgs s_meet_of) (defBody s_meet_of) (defScope s_meet_of) .none kV100 dc100 pm100 an100 cd100 ct100), sl100⟩)
    (h275 : PySem.W.codeIn K cd100 "meet_of" = true)
    (h276 : PySem.W.keepIn K (.ref f100) = true)
    (h277 : PySem.W.nsIn K mainGlobals "join_of" = some (some (.ref f101)))
    (h278 : K.lookup f101 = some ⟨oc101, od101, .func (PySem.W.fnOf "join_of" "join_of" (defArgs s_join_of) (defBody s_join_of) (defScope s_join_of) .none kV101 dc101 pm101 an101 cd101 ct101), sl101⟩)
    (h279 : PySem.W.codeIn K cd101 "join_of" = true)
    (h280 : PySem.W.keepIn K (.ref f101) = true)
    (h281 : PySem.W.nsIn K mainGlobals "is_within" = some (some (.ref f102)))
    (h282 : K.lookup f102 = some ⟨oc102, od102, .func (PySem.W.fnOf "is_within" "is_within" (defArgs s_is_within) (defBody s_is_within) (defScope s_is_within) .none kV102 dc102 pm102 an102 cd102 ct102), sl102⟩)
    (h283 : PySem.W.codeIn K cd102 "is_within" = true)
    (h284 : PySem.W.keepIn K (.ref f102) = true)
    (h285 : PySem.W.nsIn K mainGlobals "check_partings" = some (some (.ref f103)))
    (h286 : K.lookup f103 = some ⟨oc103, od103, .func (PySem.W.fnOf "check_partings" "check_partings" (defArgs s_check_partings) (defBody s_check_partings) (defScope s_check_partings) .none kV103 dc103 pm103 an103 cd103 ct103), sl103⟩)
    (h287 : PySem.W.codeIn K cd103 "check_partings" = true)
    (h288 : PySem.W.keepIn K (.ref f103) = true)
    (h289 : PySem.W.nsIn K mainGlobals "linked" = some (some (.ref f104)))
    (h290 : K.lookup f104 = some ⟨oc104, od104, .func (PySem.W.fnOf "linked" "linked" (defArgs s_linked) (defBody s_linked) (defScope s_linked) .none kV104 dc104 pm104 an104 cd104 ct104), sl104⟩)
    (h291 : PySem.W.codeIn K cd104 "linked" = true)
    (h292 : PySem.W.keepIn K (.ref f104) = true)
    (h293 : PySem.W.nsIn K mainGlobals "by_keys" = some (some (.ref f105)))
    (h294 : K.lookup f105 = some ⟨oc105, od105, .func (PySem.W.fnOf "by_keys" "by_keys" (defArgs s_by_keys) (defBody s_by_keys) (defScope s_by_keys) .none kV105 dc105 pm105 an105 cd105 ct105), sl105⟩)
    (h295 : PySem.W.codeIn K cd105 "by_keys" = true)
    (h296 : PySem.W.keepIn K (.ref f105) = true)
    (h297 : PySem.W.nsIn K mainGlobals "met" = some (some (.ref f106)))
    (h298 : K.lookup f106 = some ⟨oc106, od106, .func (PySem.W.fnOf "met" "met" (defArgs s_met) (defBody s_met) (defScope s_met) .none kV106 dc106 pm106 an106 cd106 ct106), sl106⟩)
    (h299 : PySem.W.codeIn K cd106 "met" = true)
    (h300 : PySem.W.keepIn K (.ref f106) = true)
    (h301 : PySem.W.nsIn K mainGlobals "joined" = some (some (.ref f107)))
    (h302 : K.lookup f107 = some ⟨oc107, od107, .func (PySem.W.fnOf "joined" "joined" (defArgs s_joined) (defBody s_joined) (defScope s_joined) .none kV107 dc107 pm107 an107 cd107 ct107), sl107⟩)
    (h303 : PySem.W.codeIn K cd107 "joined" = true)
    (h304 : PySem.W.keepIn K (.ref f107) = true)
    (h305 : PySem.W.nsIn K mainGlobals "within" = some (some (.ref f108)))
    (h306 : K.lookup f108 = some ⟨oc108, od108, .func (PySem.W.fnOf "within" "within" (defArgs s_within) (defBody s_within) (defScope s_within) .none kV108 dc108 pm108 an108 cd108 ct108), sl108⟩)
    (h307 : PySem.W.codeIn K cd108 "within" = true)
    (h308 : PySem.W.keepIn K (.ref f108) = true)
    (h309 : PySem.W.nsIn K mainGlobals "without_repeats" = some (some (.ref f109)))
    (h310 : K.lookup f109 = some ⟨oc109, od109, .func (PySem.W.fnOf "without_repeats" "without_repeats" (defArgs s_without_repeats) (defBody s_without_repeats) (defScope s_without_repeats) .none kV109 dc109 pm109 an109 cd109 ct109), sl109⟩)
    (h311 : PySem.W.codeIn K cd109 "without_repeats" = true)
    (h312 : PySem.W.keepIn K (.ref f109) = true)
    (h313 : PySem.W.nsIn K mainGlobals "flattened" = some (some (.ref f110)))
    (h314 : K.lookup f110 = some ⟨oc110, od110, .func (PySem.W.fnOf "flattened" "flattened" (defArgs s_flattened) (defBody s_flattened) (defScope s_flattened) .none kV110 dc110 pm110 an110 cd110 ct110), sl110⟩)
    (h315 : PySem.W.codeIn K cd110 "flattened" = true)
    (h316 : PySem.W.keepIn K (.ref f110) = true)
    (h317 : PySem.W.nsIn K mainGlobals "size_of" = some (some (.ref f111)))
    (h318 : K.lookup f111 = some ⟨oc111, od111, .func (PySem.W.fnOf "size_of" "size_of" (defArgs s_size_of) (defBody s_size_of) (defScope s_size_of) .none kV111 dc111 pm111 an111 cd111 ct111), sl111⟩)
    (h319 : PySem.W.codeIn K cd111 "size_of" = true)
    (h320 : PySem.W.keepIn K (.ref f111) = true)
    (h321 : PySem.W.nsIn K mainGlobals "depth_over" = some (some (.ref f112)))
    (h322 : K.lookup f112 = some ⟨oc112, od112, .func (PySem.W.fnOf "depth_over" "depth_over" (defArgs s_depth_over) (defBody s_depth_over) (defScope s_depth_over) .none kV112 dc112 pm112 an112 cd112 ct112), sl112⟩)
    (h323 : PySem.W.codeIn K cd112 "depth_over" = true)
    (h324 : PySem.W.keepIn K (.ref f112) = true)
    (h325 : PySem.W.nsIn K mainGlobals "inner_text" = some (some (.ref f113)))
    (h326 : K.lookup f113 = some ⟨oc113, od113, .func (PySem.W.fnOf "inner_text" "inner_text" (defArgs s_inner_text) (defBody s_inner_text) (defScope s_inner_text) .none kV113 dc113 pm113 an113 cd113 ct113), sl113⟩)
    (h327 : PySem.W.codeIn K cd113 "inner_text" = true)
    (h328 : PySem.W.keepIn K (.ref f113) = true)
    (h329 : PySem.W.nsIn K mainGlobals "text_of" = some (some (.ref f114)))
    (h330 : K.lookup f114 = some ⟨oc114, od114, .func (PySem.W.fnOf "text_of" "text_of" (defArgs s_text_of) (defBody s_text_of) (defScope s_text_of) .none kV114 dc114 pm114 an114 cd114 ct114), sl114⟩)
    (h331 : PySem.W.codeIn K cd114 "text_of" = true)
    (h332 : PySem.W.keepIn K (.ref f114) = true)
    (h333 : PySem.W.nsIn K mainGlobals "eye" = some (some (.ref f115)))
    (h334 : K.lookup f115 = some ⟨oc115, od115, .func (PySem.W.fnOf "eye" "eye" (defArgs s_eye) (defBody s_eye) (defScope s_eye) .none kV115 dc115 pm115 an115 cd115 ct115), sl115⟩)
    (h335 : PySem.W.codeIn K cd115 "eye" = true)
    (h336 : PySem.W.keepIn K (.ref f115) = true)
    (h337 : PySem.W.nsIn K mainGlobals "built" = some (some (.ref f116)))
    (h338 : K.lookup f116 = some ⟨oc116, od116, .func (PySem.W.fnOf "built" "built" (defArgs s_built) (defBody s_built) (defScope s_built) .none kV116 dc116 pm116 an116 cd116 ct116), sl116⟩)
    (h339 : PySem.W.codeIn K cd116 "built" = true)
    (h340 : PySem.W.keepIn K (.ref f116) = true)
    (h341 : PySem.W.nsIn K mainGlobals "_law_bag" = some (some (.ref f117)))
    (h342 : K.lookup f117 = some ⟨oc117, od117, .func (PySem.W.fnOf "_law_bag" "_law_bag" (defArgs s_law_bag) (defBody s_law_bag) (defScope s_law_bag) .none kV117 dc117 pm117 an117 cd117 ct117), sl117⟩)
    (h343 : PySem.W.codeIn K cd117 "_law_bag" = true)
    (h344 : PySem.W.keepIn K (.ref f117) = true)
    (h345 : PySem.W.nsIn K mainGlobals "_law_draw" = some (some (.ref f118)))
    (h346 : K.lookup f118 = some ⟨oc118, od118, .func (PySem.W.fnOf "_law_draw" "_law_draw" (defArgs s_law_draw) (defBody s_law_draw) (defScope s_law_draw) .none kV118 dc118 pm118 an118 cd118 ct118), sl118⟩)
    (h347 : PySem.W.codeIn K cd118 "_law_draw" = true)
    (h348 : PySem.W.keepIn K (.ref f118) = true)
    (h349 : PySem.W.nsIn K mainGlobals "_law_of" = some (some (.ref f119)))
    (h350 : K.lookup f119 = some ⟨oc119, od119, .func (PySem.W.fnOf "_law_of" "_law_of" (defArgs s_law_of) (defBody s_law_of) (defScope s_law_of) .none kV119 dc119 pm119 an119 cd119 ct119), sl119⟩)
    (h351 : PySem.W.codeIn K cd119 "_law_of" = true)
    (h352 : PySem.W.keepIn K (.ref f119) = true)
    (h353 : PySem.W.nsIn K mainGlobals "_law_same" = some (some (.ref f120)))
    (h354 : K.lookup f120 = some ⟨oc120, od120, .func (PySem.W.fnOf "_law_same" "_law_same" (defArgs s_law_same) (defBody s_law_same) (defScope s_law_same) .none kV120 dc120 pm120 an120 cd120 ct120), sl120⟩)
    (h355 : PySem.W.codeIn K cd120 "_law_same" = true)
    (h356 : PySem.W.keepIn K (.ref f120) = true)
    (h357 : PySem.W.nsIn K mainGlobals "_law_try" = some (some (.ref f121)))
    (h358 : K.lookup f121 = some ⟨oc121, od121, .func (PySem.W.fnOf "_law_try" "_law_try" (defArgs s_law_try) (defBody s_law_try) (defScope s_law_try) .none kV121 dc121 pm121 an121 cd121 ct121), sl121⟩)
    (h359 : PySem.W.codeIn K cd121 "_law_try" = true)
    (h360 : PySem.W.keepIn K (.ref f121) = true)
    (h361 : PySem.W.nsIn K mainGlobals "_law_why" = some (some (.ref f122)))
    (h362 : K.lookup f122 = some ⟨oc122, od122, .func (PySem.W.fnOf "_law_why" "_law_why" (defArgs s_law_why) (defBody s_law_why) (defScope s_law_why) .none kV122 dc122 pm122 an122 cd122 ct122), sl122⟩)
    (h363 : PySem.W.codeIn K cd122 "_law_why" = true)
    (h364 : PySem.W.keepIn K (.ref f122) = true)
    (h365 : PySem.W.nsIn K mainGlobals "_law_circle" = some (some (.ref f123)))
    (h366 : K.lookup f123 = some ⟨oc123, od123, .func (PySem.W.fnOf "_law_circle" "_law_circle" (defArgs s_law_circle) (defBody s_law_circle) (defScope s_law_circle) .none kV123 dc123 pm123 an123 cd123 ct123), sl123⟩)
    (h367 : PySem.W.codeIn K cd123 "_law_circle" = true)
    (h368 : PySem.W.keepIn K (.ref f123) = true)
    (h369 : PySem.W.nsIn K mainGlobals "_law_odd" = some (some (.ref f124)))
    (h370 : K.lookup f124 = some ⟨oc124, od124, .func (PySem.W.fnOf "_law_odd" "_law_odd" (defArgs s_law_odd) (defBody s_law_odd) (defScope s_law_odd) .none kV124 dc124 pm124 an124 cd124 ct124), sl124⟩)
    (h371 : PySem.W.codeIn K cd124 "_law_odd" = true)
    (h372 : PySem.W.keepIn K (.ref f124) = true)
    (h373 : PySem.W.nsIn K mainGlobals "_law_is_case" = some (some (.ref f125)))
    (h374 : K.lookup f125 = some ⟨oc125, od125, .func (PySem.W.fnOf "_law_is_case" "_law_is_case" (defArgs s_law_is_case) (defBody s_law_is_case) (defScope s_law_is_case) .none kV125 dc125 pm125 an125 cd125 ct125), sl125⟩)
    (h375 : PySem.W.codeIn K cd125 "_law_is_case" = true)
    (h376 : PySem.W.keepIn K (.ref f125) = true)
    (h377 : PySem.W.nsIn K mainGlobals "_law_is_rows" = some (some (.ref f126)))
    (h378 : K.lookup f126 = some ⟨oc126, od126, .func (PySem.W.fnOf "_law_is_rows" "_law_is_rows" (defArgs s_law_is_rows) (defBody s_law_is_rows) (defScope s_law_is_rows) .none kV126 dc126 pm126 an126 cd126 ct126), sl126⟩)
    (h379 : PySem.W.codeIn K cd126 "_law_is_rows" = true)
    (h380 : PySem.W.keepIn K (.ref f126) = true)
    (h381 : PySem.W.nsIn K mainGlobals "_law_alone" = some (some (.ref f127)))
    (h382 : K.lookup f127 = some ⟨oc127, od127, .func (PySem.W.fnOf "_law_alone" "_law_alone" (defArgs s_law_alone) (defBody s_law_alone) (defScope s_law_alone) .none kV127 dc127 pm127 an127 cd127 ct127), sl127⟩)
    (h383 : PySem.W.codeIn K cd127 "_law_alone" = true)
    (h384 : PySem.W.keepIn K (.ref f127) = true)
    (h385 : PySem.W.nsIn K mainGlobals "_law_merged" = some (some (.ref f128)))
    (h386 : K.lookup f128 = some ⟨oc128, od128, .func (PySem.W.fnOf "_law_merged" "_law_merged" (defArgs s_law_merged) (defBody s_law_merged) (defScope s_law_merged) .none kV128 dc128 pm128 an128 cd128 ct128), sl128⟩)
    (h387 : PySem.W.codeIn K cd128 "_law_merged" = true)
    (h388 : PySem.W.keepIn K (.ref f128) = true)
    (h389 : PySem.W.nsIn K mainGlobals "_law_met" = some (some (.ref f129)))
    (h390 : K.lookup f129 = some ⟨oc129, od129, .func (PySem.W.fnOf "_law_met" "_law_met" (defArgs s_law_met) (defBody s_law_met) (defScope s_law_met) .none kV129 dc129 pm129 an129 cd129 ct129), sl129⟩)
    (h391 : PySem.W.codeIn K cd129 "_law_met" = true)
    (h392 : PySem.W.keepIn K (.ref f129) = true)
    (h393 : PySem.W.nsIn K mainGlobals "_law_joined" = some (some (.ref f130)))
    (h394 : K.lookup f130 = some ⟨oc130, od130, .func (PySem.W.fnOf "_law_joined" "_law_joined" (defArgs s_law_joined) (defBody s_law_joined) (defScope s_law_joined) .none kV130 dc130 pm130 an130 cd130 ct130), sl130⟩)
    (h395 : PySem.W.codeIn K cd130 "_law_joined" = true)
    (h396 : PySem.W.keepIn K (.ref f130) = true)
    (h397 : PySem.W.nsIn K mainGlobals "_law_inner" = some (some (.ref f131)))
    (h398 : K.lookup f131 = some ⟨oc131, od131, .func (PySem.W.fnOf "_law_inner" "_law_inner" (defArgs s_law_inner) (defBody s_law_inner) (defScope s_law_inner) .none kV131 dc131 pm131 an131 cd131 ct131), sl131⟩)
    (h399 : PySem.W.codeIn K cd131 "_law_inner" = true)
    (h400 : PySem.W.keepIn K (.ref f131) = true)
    (h401 : PySem.W.nsIn K mainGlobals "_law_group" = some (some (.ref f132)))
    (h402 : K.lookup f132 = some ⟨oc132, od132, .func (PySem.W.fnOf "_law_group" "_law_group" (defArgs s_law_group) (defBody s_law_group) (defScope s_law_group) .none kV132 dc132 pm132 an132 cd132 ct132), sl132⟩)
    (h403 : PySem.W.codeIn K cd132 "_law_group" = true)
    (h404 : PySem.W.keepIn K (.ref f132) = true)
    (h405 : PySem.W.nsIn K mainGlobals "_law_rows" = some (some (.ref f133)))
    (h406 : K.lookup f133 = some ⟨oc133, od133, .func (PySem.W.fnOf "_law_rows" "_law_rows" (defArgs s_law_rows) (defBody s_law_rows) (defScope s_law_rows) .none kV133 dc133 pm133 an133 cd133 ct133), sl133⟩)
    (h407 : PySem.W.codeIn K cd133 "_law_rows" = true)
    (h408 : PySem.W.keepIn K (.ref f133) = true)
    (h409 : PySem.W.nsIn K mainGlobals "_law_couples" = some (some (.ref f134)))
    (h410 : K.lookup f134 = some ⟨oc134, od134, .func (PySem.W.fnOf "_law_couples" "_law_couples" (defArgs s_law_couples) (defBody s_law_couples) (defScope s_law_couples) .none kV134 dc134 pm134 an134 cd134 ct134), sl134⟩)
    (h411 : PySem.W.codeIn K cd134 "_law_couples" = true)
    (h412 : PySem.W.keepIn K (.ref f134) = true)
    (h413 : PySem.W.nsIn K mainGlobals "_law_lattice_so" = some (some (.ref f135)))
    (h414 : K.lookup f135 = some ⟨oc135, od135, .func (PySem.W.fnOf "_law_lattice_so" "_law_lattice_so" (defArgs s_law_lattice_so) (defBody s_law_lattice_so) (defScope s_law_lattice_so) .none kV135 dc135 pm135 an135 cd135 ct135), sl135⟩)
    (h415 : PySem.W.codeIn K cd135 "_law_lattice_so" = true)
    (h416 : PySem.W.keepIn K (.ref f135) = true)
    (h417 : PySem.W.nsIn K mainGlobals "_law_lots_so" = some (some (.ref f136)))
    (h418 : K.lookup f136 = some ⟨oc136, od136, .func (PySem.W.fnOf "_law_lots_so" "_law_lots_so" (defArgs s_law_lots_so) (defBody s_law_lots_so) (defScope s_law_lots_so) .none kV136 dc136 pm136 an136 cd136 ct136), sl136⟩)
    (h419 : PySem.W.codeIn K cd136 "_law_lots_so" = true)
    (h420 : PySem.W.keepIn K (.ref f136) = true)
    (h421 : PySem.W.nsIn K mainGlobals "_law_near_rows" = some (some (.ref f137)))
    (h422 : K.lookup f137 = some ⟨oc137, od137, .func (PySem.W.fnOf "_law_near_rows" "_law_near_rows" (defArgs s_law_near_rows) (defBody s_law_near_rows) (defScope s_law_near_rows) .none kV137 dc137 pm137 an137 cd137 ct137), sl137⟩)
    (h423 : PySem.W.codeIn K cd137 "_law_near_rows" = true)
    (h424 : PySem.W.keepIn K (.ref f137) = true)
    (h425 : PySem.W.nsIn K mainGlobals "_law_judged_so" = some (some (.ref f138)))
    (h426 : K.lookup f138 = some ⟨oc138, od138, .func (PySem.W.fnOf "_law_judged_so" "_law_judged_so" (defArgs s_law_judged_so) (defBody s_law_judged_so) (defScope s_law_judged_so) .none kV138 dc138 pm138 an138 (.ref z_cdA) ct138), sl138⟩)
    (h427 : PySem.W.codeIn K (.ref z_cdA) "_law_judged_so" = true)
    (h428 : PySem.W.keepIn K (.ref f138) = true)
    (h429 : PySem.W.nsIn K mainGlobals "_law_pairs_so" = some (some (.ref f139)))
    (h430 : K.lookup f139 = some ⟨oc139, od139, .func (PySem.W.fnOf "_law_pairs_so" "_law_pairs_so" (defArgs s_law_pairs_so) (defBody s_law_pairs_so) (defScope s_law_pairs_so) .none kV139 dc139 pm139 an139 (.ref z_cdB) ct139), sl139⟩)
    (h431 : PySem.W.codeIn K (.ref z_cdB) "_law_pairs_so" = true)
    (h432 : PySem.W.keepIn K (.ref f139) = true)
    (h433 : PySem.W.nsIn K mainGlobals "law" = some (some (.ref f140)))
    (h434 : K.lookup f140 = some ⟨oc140, od140, .func (PySem.W.fnOf "law" "law" (defArgs s_law) (defBody s_law) (defScope s_law) .none kV140 dc140 pm140 an140 cd140 ct140), sl140⟩)
    (h435 : PySem.W.codeIn K cd140 "law" = true)
    (h436 : PySem.W.keepIn K (.ref f140) = true)
    (h437 : K.lookup z_cdA = some o141)
    (h438 : (o141).cls = .type "code")
    (h439 : (o141).data = .fields vs141)
    (h440 : (vs141)[11]? = some (.ref z_tbA))
    (h441 : (vs141).getD 11 .none = .ref z_tbA)
    (h442 : (vs141).getD 18 .none = .str fi141 tf141)
    (h443 : (vs141).getD 7 .none = .int fl141 tg141)
    (h444 : (vs141).getD 9 .none = .bool nf141)
    (h445 : (vs141).getD 10 .none = .int tx141 tt141)
    (h446 : z_cdA ≠ z_tbA)
    (h447 : h.get? z_tbA = some { cls := .none, data := .fields #[] })
    (h448 : (K.lookup z_tbA).isNone = true)
    (h449 : K.lookup z_cdB = some o144)
    (h450 : (o144).cls = .type "code")
    (h451 : (o144).data = .fields vs144)
    (h452 : (vs144)[11]? = some (.ref z_tbB))
    (h453 : (vs144).getD 11 .none = .ref z_tbB)
    (h454 : (vs144).getD 18 .none = .str fi144 tf144)
    (h455 : (vs144).getD 7 .none = .int fl144 tg144)
    (h456 : (vs144).getD 9 .none = .bool nf144)
    (h457 : (vs144).getD 10 .none = .int tx144 tt144)
    (h458 : z_cdB ≠ z_tbB)
    (h459 : h.get? z_tbB = some { cls := .none, data := .fields #[] })
    (h460 : (K.lookup z_tbB).isNone = true) :
    ∃ A : Adr, Txt K mg A ∧ Tbs K h A := ⟨⟨0, z_Circle, z_InvalidName, z_InvalidNumber, z_InvalidText, z_InvalidCircle, z_InvalidTie, z_InvalidParting, z_InvalidCase, z_TooMany, z_cdA, z_tbA, z_cdB, z_tbB⟩, {n_isinstance := PySem.W.mg_none_of X G h1, n_str := PySem.W.mg_none_of X G h2, n_len := PySem.W.mg_none_of X G h3, n_all := PySem.W.mg_none_of X G h4, n_bool := PySem.W.mg_none_of X G h5, n_int := PySem.W.mg_none_of X G h6, n_tuple := PySem.W.mg_none_of X G h7, n_range := PySem.W.mg_none_of X G h8, n_list := PySem.W.mg_none_of X G h9, n_enumerate := PySem.W.mg_none_of X G h10, n_max := PySem.W.mg_none_of X G h11, n_min := PySem.W.mg_none_of X G h12, n_zip := PySem.W.mg_none_of X G h13, n_sum := PySem.W.mg_none_of X G h14, n_sorted := PySem.W.mg_none_of X G h15, n_set := PySem.W.mg_none_of X G h16, n_NotImplemented := PySem.W.mg_none_of X G h17, n_abs := PySem.W.mg_none_of X G h18, n_dict := PySem.W.mg_none_of X G h19, n_ValueError := PySem.W.mg_none_of X G h20, n_LookupError := PySem.W.mg_none_of X G h21, m_LETTERS := ⟨_, PySem.W.mg_of X G h22⟩, m_MOST_LETTERS := ⟨_, PySem.W.mg_of X G h23⟩, m_MOST_CASES := ⟨_, PySem.W.mg_of X G h24⟩, m_MOST_DEPTH := ⟨_, PySem.W.mg_of X G h25⟩, m_Circle := PySem.W.mg_of X G h26, c_Circle := ⟨h27, h28, h29, h30⟩, y_Circle := ⟨h31, h32, h33, h34, kit_own h35 (by decide +kernel), kit_own h36 (by decide +kernel), kit_own h37 (by decide +kernel), kit_own h38 (by decide +kernel), kit_own h39 (by decide +kernel), kit_own h40 (by decide +kernel)⟩, s_Circle := h41, a_Circle_kind := h42, a_Circle_name := h43, a_Circle_parts := h44, a_Circle_size := h45, a_Circle_depth := h46, a_Circle_text := h47, k_Circle_LIMIT := ⟨_, ⟨h48, h49⟩, ⟨h50, ⟨_, rfl⟩⟩⟩, q_Circle_LIMIT := ⟨_, ⟨h51, ⟨_, rfl⟩, h52, by decide +kernel⟩⟩, i_Circle := initAt_mk h53 h54 h55 h56 h57 h58 h59 (fun _ _ _ _ _ _ us hl => match us, hl with | [_, _, _, _], _ => rfl), t_Circle_parts := methAt_mk h60 h61 h62 h63 h64 (fun _ _ _ _ _ _ us hl => match us, hl with | [_], _ => rfl), t_Circle_eyes := methAt_mk h65 h66 h67 h68 h69 (fun _ _ _ _ _ _ us hl => match us, hl with | [_], _ => rfl), t_Circle___str := methAt_mk h70 h71 h72 h73 h74 (fun _ _ _ _ _ _ us hl => match us, hl with | [_], _ => rfl), t_Circle___repr := methAt_mk h75 h76 h77 h78 h79 (fun _ _ _ _ _ _ us hl => match us, hl with | [_], _ => rfl), t_Circle___eq := methAt_mk h80 h81 h82 h83 h84 (fun _ _ _ _ _ _ us hl => match us, hl with | [_, _], _ => rfl), t_Circle___and := methAt_mk h85 h86 h87 h88 h89 (fun _ _ _ _ _ _ us hl => match us, hl with | [_, _], _ => rfl), t_Circle___or := methAt_mk h90 h91 h92 h93 h94 (fun _ _ _ _ _ _ us hl => match us, hl with | [_, _], _ => rfl), e_InvalidName := errAt_mk X G h95 h96 h97 h98 h99 h100 h101 h102 h103 h104 h105 h106 h107 (fun _ _ _ _ _ _ us hl => match us, hl with | [_, _], _ => rfl), a_InvalidName_value := h108, e_InvalidNumber := errAt_mk X G h109 h110 h111 h112 h113 h114 h115 h116 h117 h118 h119 h120 h121 (fun _ _ _ _ _ _ us hl => match us, hl with | [_, _], _ => rfl), a_InvalidNumber_value := h122, e_InvalidText := errAt_mk X G h123 h124 h125 h126 h127 h128 h129 h130 h131 h132 h133 h134 h135 (fun _ _ _ _ _ _ us hl => match us, hl with | [_, _], _ => rfl), a_InvalidText_at := h136, e_InvalidCircle := errAt_mk X G h137 h138 h139 h140 h141 h142 h143 h144 h145 h146 h147 h148 h149 (fun _ _ _ _ _ _ us hl => match us, hl with | [_, _], _ => rfl), a_InvalidCircle_at := h150, e_InvalidTie := errAt_mk X G h151 h152 h153 h154 h155 h156 h157 h158 h159 h160 h161 h162 h163 (fun _ _ _ _ _ _ us hl => match us, hl with | [_, _], _ => rfl), a_InvalidTie_at := h164, e_InvalidParting := errAt_mk X G h165 h166 h167 h168 h169 h170 h171 h172 h173 h174 h175 h176 h177 (fun _ _ _ _ _ _ us hl => match us, hl with | [_, _], _ => rfl), a_InvalidParting_value := h178, e_InvalidCase := errAt_mk X G h179 h180 h181 h182 h183 h184 h185 h186 h187 h188 h189 h190 h191 (fun _ _ _ _ _ _ us hl => match us, hl with | [_, _], _ => rfl), a_InvalidCase_value := h192, e_TooMany := errAt_mk X G h193 h194 h195 h196 h197 h198 h199 h200 h201 h202 h203 h204 h205 (fun _ _ _ _ _ _ us hl => match us, hl with | [_, _, _], _ => rfl), a_TooMany_what := h206, a_TooMany_most := h207, x_InvalidName_InvalidName := h208, x_InvalidCircle_InvalidName := h209, x_InvalidCircle_InvalidNumber := h210, x_InvalidCircle_InvalidText := h211, x_InvalidCircle_InvalidCircle := h212, x_InvalidNumber_InvalidName := h213, x_InvalidNumber_InvalidNumber := h214, x_InvalidTie_InvalidName := h215, x_InvalidTie_InvalidNumber := h216, x_InvalidTie_InvalidText := h217, x_InvalidTie_InvalidCircle := h218, x_InvalidTie_InvalidTie := h219, x_InvalidParting_InvalidName := h220, x_InvalidParting_InvalidNumber := h221, x_InvalidParting_InvalidText := h222, x_InvalidParting_InvalidCircle := h223, x_InvalidParting_InvalidTie := h224, x_InvalidParting_InvalidParting := h225, kc_NoneType := h226, kc_bool := h227, kc_int := h228, kc_list := h229, kc_str := h230, kc_tuple := h231, nb_Circle := h232, nf_list := h233, nf_str := h234, nl_Circle := h235, tne := h236, f_is_name := fnAt_mk X G h237 h238 h239 h240 (fun _ _ _ _ _ _ us hl => match us, hl with | [_], _ => rfl), f_is_number := fnAt_mk X G h241 h242 h243 h244 (fun _ _ _ _ _ _ us hl => match us, hl with | [_, _, _], _ => rfl), f_is_parting := fnAt_mk X G h245 h246 h247 h248 (fun _ _ _ _ _ _ us hl => match us, hl with | [_], _ => rfl), f_is_item := fnAt_mk X G h249 h250 h251 h252 (fun _ _ _ _ _ _ us hl => match us, hl with | [_, _], _ => rfl), f_apart := fnAt_mk X G h253 h254 h255 h256 (fun _ _ _ _ _ _ us hl => match us, hl with | [_], _ => rfl), f_together := fnAt_mk X G h257 h258 h259 h260 (fun _ _ _ _ _ _ us hl => match us, hl with | [_], _ => rfl), f_parting_of := fnAt_mk X G h261 h262 h263 h264 (fun _ _ _ _ _ _ us hl => match us, hl with | [_, _], _ => rfl), f_is_pair := fnAt_mk X G h265 h266 h267 h268 (fun _ _ _ _ _ _ us hl => match us, hl with | [_, _], _ => rfl), f_lots_of := fnAt_mk X G h269 h270 h271 h272 (fun _ _ _ _ _ _ us hl => match us, hl with | [_], _ => rfl), f_meet_of := fnAt_mk X G h273 h274 h275 h276 (fun _ _ _ _ _ _ us hl => match us, hl with | [_, _], _ => rfl), f_join_of := fnAt_mk X G h277 h278 h279 h280 (fun _ _ _ _ _ _ us hl => match us, hl with | [_, _], _ => rfl), f_is_within := fnAt_mk X G h281 h282 h283 h284 (fun _ _ _ _ _ _ us hl => match us, hl with | [_, _], _ => rfl), f_check_partings := fnAt_mk X G h285 h286 h287 h288 (fun _ _ _ _ _ _ us hl => match us, hl with | [_, _], _ => rfl), f_linked := fnAt_mk X G h289 h290 h291 h292 (fun _ _ _ _ _ _ us hl => match us, hl with | [_, _], _ => rfl), f_by_keys := fnAt_mk X G h293 h294 h295 h296 (fun _ _ _ _ _ _ us hl => match us, hl with | [_], _ => rfl), f_met := fnAt_mk X G h297 h298 h299 h300 (fun _ _ _ _ _ _ us hl => match us, hl with | [_], _ => rfl), f_joined := fnAt_mk X G h301 h302 h303 h304 (fun _ _ _ _ _ _ us hl => match us, hl with | [_], _ => rfl), f_within := fnAt_mk X G h305 h306 h307 h308 (fun _ _ _ _ _ _ us hl => match us, hl with | [_, _], _ => rfl), f_without_repeats := fnAt_mk X G h309 h310 h311 h312 (fun _ _ _ _ _ _ us hl => match us, hl with | [_], _ => rfl), f_flattened := fnAt_mk X G h313 h314 h315 h316 (fun _ _ _ _ _ _ us hl => match us, hl with | [_, _], _ => rfl), f_size_of := fnAt_mk X G h317 h318 h319 h320 (fun _ _ _ _ _ _ us hl => match us, hl with | [_], _ => rfl), f_depth_over := fnAt_mk X G h321 h322 h323 h324 (fun _ _ _ _ _ _ us hl => match us, hl with | [_], _ => rfl), f_inner_text := fnAt_mk X G h325 h326 h327 h328 (fun _ _ _ _ _ _ us hl => match us, hl with | [_], _ => rfl), f_text_of := fnAt_mk X G h329 h330 h331 h332 (fun _ _ _ _ _ _ us hl => match us, hl with | [_, _], _ => rfl), f_eye := fnAt_mk X G h333 h334 h335 h336 (fun _ _ _ _ _ _ us hl => match us, hl with | [_], _ => rfl), f_built := fnAt_mk X G h337 h338 h339 h340 (fun _ _ _ _ _ _ us hl => match us, hl with | [_, _], _ => rfl), f_law_bag := fnAt_mk X G h341 h342 h343 h344 (fun _ _ _ _ _ _ us hl => match us, hl with | [_], _ => rfl), f_law_draw := fnAt_mk X G h345 h346 h347 h348 (fun _ _ _ _ _ _ us hl => match us, hl with | [_, _], _ => rfl), f_law_of := fnAt_mk X G h349 h350 h351 h352 (fun _ _ _ _ _ _ us hl => match us, hl with | [_, _], _ => rfl), f_law_same := fnAt_mk X G h353 h354 h355 h356 (fun _ _ _ _ _ _ us hl => match us, hl with | [_, _], _ => rfl), f_law_try := fnAt_mk X G h357 h358 h359 h360 (fun _ _ _ _ _ _ us hl => match us, hl with | [_], _ => rfl), f_law_why := fnAt_mk X G h361 h362 h363 h364 (fun _ _ _ _ _ _ us hl => match us, hl with | [_], _ => rfl), f_law_circle := fnAt_mk X G h365 h366 h367 h368 (fun _ _ _ _ _ _ us hl => match us, hl with | [_], _ => rfl), f_law_odd := fnAt_mk X G h369 h370 h371 h372 (fun _ _ _ _ _ _ us hl => match us, hl with | [_, _], _ => rfl), f_law_is_case := fnAt_mk X G h373 h374 h375 h376 (fun _ _ _ _ _ _ us hl => match us, hl with | [_, _], _ => rfl), f_law_is_rows := fnAt_mk X G h377 h378 h379 h380 (fun _ _ _ _ _ _ us hl => match us, hl with | [_], _ => rfl), f_law_alone := fnAt_mk X G h381 h382 h383 h384 (fun _ _ _ _ _ _ us hl => match us, hl with | [_], _ => rfl), f_law_merged := fnAt_mk X G h385 h386 h387 h388 (fun _ _ _ _ _ _ us hl => match us, hl with | [_, _], _ => rfl), f_law_met := fnAt_mk X G h389 h390 h391 h392 (fun _ _ _ _ _ _ us hl => match us, hl with | [_, _], _ => rfl), f_law_joined := fnAt_mk X G h393 h394 h395 h396 (fun _ _ _ _ _ _ us hl => match us, hl with | [_, _], _ => rfl), f_law_inner := fnAt_mk X G h397 h398 h399 h400 (fun _ _ _ _ _ _ us hl => match us, hl with | [_, _], _ => rfl), f_law_group := fnAt_mk X G h401 h402 h403 h404 (fun _ _ _ _ _ _ us hl => match us, hl with | [_, _], _ => rfl), f_law_rows := fnAt_mk X G h405 h406 h407 h408 (fun _ _ _ _ _ _ us hl => match us, hl with | [_, _], _ => rfl), f_law_couples := fnAt_mk X G h409 h410 h411 h412 (fun _ _ _ _ _ _ us hl => match us, hl with | [_, _, _], _ => rfl), f_law_lattice_so := fnAt_mk X G h413 h414 h415 h416 (fun _ _ _ _ _ _ us hl => match us, hl with | [_, _, _], _ => rfl), f_law_lots_so := fnAt_mk X G h417 h418 h419 h420 (fun _ _ _ _ _ _ us hl => match us, hl with | [_, _], _ => rfl), f_law_near_rows := fnAt_mk X G h421 h422 h423 h424 (fun _ _ _ _ _ _ us hl => match us, hl with | [_, _], _ => rfl), f_law_judged_so := fnAtC_mk X G h425 h426 h427 h428 (fun _ _ _ _ _ _ us hl => match us, hl with | [_, _], _ => rfl), f_law_pairs_so := fnAtC_mk X G h429 h430 h431 h432 (fun _ _ _ _ _ _ us hl => match us, hl with | [_, _], _ => rfl), f_law := fnAt_mk X G h433 h434 h435 h436 (fun _ _ _ _ _ _ us hl => match us, hl with | [_], _ => rfl) }, {cA := codeHd_mk X h437 h438 h439 h440 h441 h442 h443 h444 h445 h446, tA := h447, nA := (Option.isNone_iff_eq_none.mp h448), cB := codeHd_mk X h449 h450 h451 h452 h453 h454 h455 h456 h457 h458, tB := h459, nB := (Option.isNone_iff_eq_none.mp h460) }⟩
theorem fin {l : PySem.W.OpenLaw} {w : World} {K : PySem.W.Frag} {mg : Str → Option Value} {fa : Addr} {h : Heap} (T : ∃ A, Txt K mg A ∧ Tbs K h A) (hmg : mg "law" = some (.ref fa)) : LamX.LawAtS l w K CX0 29 63 "_law_script" mg fa h := by
  obtain ⟨A, T, B⟩ := T
  obtain ⟨f, fd, F, hb, hm⟩ := T.f_law
  obtain ⟨oc, od, kV, doc, pm, an, cdv, ct, osl, rfl, lk, hcd⟩ := F.ex
  cases hmg.symm.trans hm
  refine ⟨PySem.W.fnOf "law" "law" (defArgs s_law) (defBody s_law) (defScope s_law) .none kV doc pm an cdv ct, [(A.cdA, A.tbA), (A.cdB, A.tbB)], spLaw K (TT A), ?_, ?_, ?_, fun s v => .of_eq rfl, fun H a ns hl _ hT hS => ⟨a, ns, rfl, hS, hl, tabs_new ?_, fun _ => rfl⟩, fun base _ _ TB => ?_⟩
  · intro p hp
    simp only [List.mem_cons, List.not_mem_nil, or_false] at hp
    rcases hp with rfl | rfl
    · exact B.tA
    · exact B.tB
  · intro p hp
    simp only [List.mem_cons, List.not_mem_nil, or_false] at hp
    rcases hp with rfl | rfl
    · exact B.nA
    · exact B.nB
  · intro p hp
    simp only [List.mem_cons, List.not_mem_nil, or_false] at hp
    rcases hp with rfl | rfl
    · exact B.cA
    · exact B.cB
  · intro p hp
    simp only [TT, List.mem_cons, List.not_mem_nil, or_false] at hp
    rcases hp with rfl | rfl
    · exact hT (A.cdA, A.tbA) (by simp)
    · exact hT (A.cdB, A.tbB) (by simp)
  · obtain ⟨f2, fd2, hm2, F2, _, R⟩ := ok_law (P := l.prog) (w := w) (base := base) T (TB (A.cdA, A.tbA) (by simp)) (TB (A.cdB, A.tbB) (by simp))
    cases hm.symm.trans hm2
    obtain ⟨oc2, od2, kV2, doc2, pm2, an2, cdv2, ct2, osl2, rfl, lk2, hcd2⟩ := F2.ex
    cases lk.symm.trans lk2
    exact R
end Eyes
open PySem PySem.W PyProof.Rows
set_option maxHeartbeats 0 in
theorem PySem.Challenge.cw_pooledeyes_k07_partings_joined_and_met_holds : PySem.Challenge.rw_pooledeyes_k07_partings_joined_and_met.Holds := by
  w_on; o_law; k_head; (case hw => w_witness2)
  k_fill
  refine LamX.walk_ofTs (l := PySem.Challenge.rw_pooledeyes_k07_partings_joined_and_met) (n := 63) (k := 29) (x := "_law_script") (CX := fun _ => L2.CX0) rfl (by decide) rfl ⟨rfl, by decide, by decide⟩ (fun w h Y => Y.1) ?F (fun _ _ _ _ _ h => h)
  case F =>
    intro w mg fa h Y KX G hmg
    refine' Eyes.fin (Eyes.txt_mk KX G ?h1 ?h2 ?h3 ?h4 ?h5 ?h6 ?h7 ?h8 ?h9 ?h10 ?h11 ?h12 ?h13 ?h14 ?h15 ?h16 ?h17 ?h18 ?h19 ?h20 ?h21 ?h22 ?h23 ?h24 ?h25 ?h26 ?h27 ?h28 ?h29 ?h30 ?h31 ?h32 ?h33 ?h34 ?h35 ?h36 ?h37 ?h38 ?h39 ?h40 ?h41 ?h42 ?h43 ?h44 ?h45 ?h46 ?h47 ?h48 ?h49 ?h50 ?h51 ?h52 ?h53 ?h54 ?h55 ?h56 ?h57 ?h58 ?h59 ?h60 ?h61 ?h62 ?h63 ?h64 ?h65 ?h66 ?h67 ?h68 ?h69 ?h70 ?h71 ?h72 ?h73 ?h74 ?h75 ?h76 ?h77 ?h78 ?h79 ?h80 ?h81 ?h82 ?h83 ?h84 ?h85 ?h86 ?h87 ?h88 ?h89 ?h90 ?h91 ?h92 ?h93 ?h94 ?h95 ?h96 ?h97 ?h98 ?h99 ?h100 ?h101 ?h102 ?h103 ?h104 ?h105 ?h106 ?h107 ?h108 ?h109 ?h110 ?h111 ?h112 ?h113 ?h114 ?h115 ?h116 ?h117 ?h118 ?h119 ?h120 ?h121 ?h122 ?h123 ?h124 ?h125 ?h126 ?h127 ?h128 ?h129 ?h130 ?h131 ?h132 ?h133 ?h134 ?h135 ?h136 ?h137 ?h138 ?h139 ?h140 ?h141 ?h142 ?h143 ?h144 ?h145 ?h146 ?h147 ?h148 ?h149 ?h150 ?h151 ?h152 ?h153 ?h154 ?h155 ?h156 ?h157 ?h158 ?h159 ?h160 ?h161 ?h162 ?h163 ?h164 ?h165 ?h166 ?h167 ?h168 ?h169 ?h170 ?h171 ?h172 ?h173 ?h174 ?h175 ?h176 ?h177 ?h178 ?h179 ?h180 ?h181 ?h182 ?h183 ?h184 ?h185 ?h186 ?h187 ?h188 ?h189 ?h190 ?h191 ?h192 ?h193 ?h194 ?h195 ?h196 ?h197 ?h198 ?h199 ?h200 ?h201 ?h202 ?h203 ?h204 ?h205 ?h206 ?h207 ?h208 ?h209 ?h210 ?h211 ?h212 ?h213 ?h214 ?h215 ?h216 ?h217 ?h218 ?h219 ?h220 ?h221 ?h222 ?h223 ?h224 ?h225 ?h226 ?h227 ?h228 ?h229 ?h230 ?h231 ?h232 ?h233 ?h234 ?h235 ?h236 ?h237 ?h238 ?h239 ?h240 ?h241 ?h242 ?h243 ?h244 ?h245 ?h246 ?h247 ?h248 ?h249 ?h250 ?h251 ?h252 ?h253 ?h254 ?h255 ?h256 ?h257 ?h258 ?h259 ?h260 ?h261 ?h262 ?h263 ?h264 ?h265 ?h266 ?h267 ?h268 ?h269 ?h270 ?h271 ?h272 ?h273 ?h274 ?h275 ?h276 ?h277 ?h278 ?h279 ?h280 ?h281 ?h282 ?h283 ?h284 ?h285 ?h286 ?h287 ?h288 ?h289 ?h290 ?h291 ?h292 ?h293 ?h294 ?h295 ?h296 ?h297 ?h298 ?h299 ?h300 ?h301 ?h302 ?h303 ?h304 ?h305 ?h306 ?h307 ?h308 ?h309 ?h310 ?h311 ?h312 ?h313 ?h314 ?h315 ?h316 ?h317 ?h318 ?h319 ?h320 ?h321 ?h322 ?h323 ?h324 ?h325 ?h326 ?h327 ?h328 ?h329 ?h330 ?h331 ?h332 ?h333 ?h334 ?h335 ?h336 ?h337 ?h338 ?h339 ?h340 ?h341 ?h342 ?h343 ?h344 ?h345 ?h346 ?h347 ?h348 ?h349 ?h350 ?h351 ?h352 ?h353 ?h354 ?h355 ?h356 ?h357 ?h358 ?h359 ?h360 ?h361 ?h362 ?h363 ?h364 ?h365 ?h366 ?h367 ?h368 ?h369 ?h370 ?h371 ?h372 ?h373 ?h374 ?h375 ?h376 ?h377 ?h378 ?h379 ?h380 ?h381 ?h382 ?h383 ?h384 ?h385 ?h386 ?h387 ?h388 ?h389 ?h390 ?h391 ?h392 ?h393 ?h394 ?h395 ?h396 ?h397 ?h398 ?h399 ?h400 ?h401 ?h402 ?h403 ?h404 ?h405 ?h406 ?h407 ?h408 ?h409 ?h410 ?h411 ?h412 ?h413 ?h414 ?h415 ?h416 ?h417 ?h418 ?h419 ?h420 ?h421 ?h422 ?h423 ?h424 ?h425 ?h426 ?h427 ?h428 ?h429 ?h430 ?h431 ?h432 ?h433 ?h434 ?h435 ?h436 ?h437 ?h438 ?h439 ?h440 ?h441 ?h442 ?h443 ?h444 ?h445 ?h446 ?h447 ?h448 ?h449 ?h450 ?h451 ?h452 ?h453 ?h454 ?h455 ?h456 ?h457 ?h458 ?h459 ?h460) hmg
    (case h1 => k_is); (case h2 => k_is); (case h3 => k_is); (case h4 => k_is); (case h5 => k_is); (case h6 => k_is)
    (case h7 => k_is); (case h8 => k_is); (case h9 => k_is); (case h10 => k_is); (case h11 => k_is); (case h12 => k_is)
    (case h13 => k_is); (case h14 => k_is); (case h15 => k_is); (case h16 => k_is); (case h17 => k_is); (case h18 => k_is)
    (case h19 => k_is); (case h20 => k_is); (case h21 => k_is); (case h22 => k_is); (case h23 => k_is); (case h24 => k_is)
    (case h25 => k_is); (case h26 => k_is); (case h27 => k_is); (case h28 => k_is); (case h29 => k_is); (case h30 => k_is)
    (case h31 => k_is); (case h32 => k_is); (case h33 => k_is); (case h34 => k_is); (case h35 => k_is); (case h36 => k_is)
    (case h37 => k_is); (case h38 => k_is); (case h39 => k_is); (case h40 => k_is); (case h41 => k_is); (case h42 => k_is)
    (case h43 => k_is); (case h44 => k_is); (case h45 => k_is); (case h46 => k_is); (case h47 => k_is); (case h48 => k_is)
    (case h49 => k_is); (case h50 => k_is); (case h51 => k_is); (case h52 => k_is); (case h53 => k_is); (case h54 => k_is)
    (case h55 => k_is); (case h56 => k_is); (case h57 => k_is); (case h58 => k_is); (case h59 => k_is); (case h60 => k_is)
    (case h61 => k_is); (case h62 => k_is); (case h63 => k_is); (case h64 => k_is); (case h65 => k_is); (case h66 => k_is)
    (case h67 => k_is); (case h68 => k_is); (case h69 => k_is); (case h70 => k_is); (case h71 => k_is); (case h72 => k_is)
    (case h73 => k_is); (case h74 => k_is); (case h75 => k_is); (case h76 => k_is); (case h77 => k_is); (case h78 => k_is)
    (case h79 => k_is); (case h80 => k_is); (case h81 => k_is); (case h82 => k_is); (case h83 => k_is); (case h84 => k_is)
    (case h85 => k_is); (case h86 => k_is); (case h87 => k_is); (case h88 => k_is); (case h89 => k_is); (case h90 => k_is)
    (case h91 => k_is); (case h92 => k_is); (case h93 => k_is); (case h94 => k_is); (case h95 => k_is); (case h96 => k_is)
    (case h97 => kernel_rfl); (case h98 => k_is); (case h99 => k_is); (case h100 => k_is); (case h101 => k_is); (case h102 => kernel_rfl)
    (case h103 => k_is); (case h104 => k_is); (case h105 => k_is); (case h106 => k_is); (case h107 => k_is); (case h108 => k_is)
    (case h109 => k_is); (case h110 => k_is); (case h111 => kernel_rfl); (case h112 => k_is); (case h113 => k_is); (case h114 => k_is)
    (case h115 => k_is); (case h116 => kernel_rfl); (case h117 => k_is); (case h118 => k_is); (case h119 => k_is); (case h120 => k_is)
    (case h121 => k_is); (case h122 => k_is); (case h123 => k_is); (case h124 => k_is); (case h125 => kernel_rfl); (case h126 => k_is)
    (case h127 => k_is); (case h128 => k_is); (case h129 => k_is); (case h130 => kernel_rfl); (case h131 => k_is); (case h132 => k_is)
    (case h133 => k_is); (case h134 => k_is); (case h135 => k_is); (case h136 => k_is); (case h137 => k_is); (case h138 => k_is)
    (case h139 => kernel_rfl); (case h140 => k_is); (case h141 => k_is); (case h142 => k_is); (case h143 => k_is); (case h144 => kernel_rfl)
    (case h145 => k_is); (case h146 => k_is); (case h147 => k_is); (case h148 => k_is); (case h149 => k_is); (case h150 => k_is)
    (case h151 => k_is); (case h152 => k_is); (case h153 => kernel_rfl); (case h154 => k_is); (case h155 => k_is); (case h156 => k_is)
    (case h157 => k_is); (case h158 => kernel_rfl); (case h159 => k_is); (case h160 => k_is); (case h161 => k_is); (case h162 => k_is)
    (case h163 => k_is); (case h164 => k_is); (case h165 => k_is); (case h166 => k_is); (case h167 => kernel_rfl); (case h168 => k_is)
    (case h169 => k_is); (case h170 => k_is); (case h171 => k_is); (case h172 => kernel_rfl); (case h173 => k_is); (case h174 => k_is)
    (case h175 => k_is); (case h176 => k_is); (case h177 => k_is); (case h178 => k_is); (case h179 => k_is); (case h180 => k_is)
    (case h181 => kernel_rfl); (case h182 => k_is); (case h183 => k_is); (case h184 => k_is); (case h185 => k_is); (case h186 => kernel_rfl)
    (case h187 => k_is); (case h188 => k_is); (case h189 => k_is); (case h190 => k_is); (case h191 => k_is); (case h192 => k_is)
    (case h193 => k_is); (case h194 => k_is); (case h195 => kernel_rfl); (case h196 => k_is); (case h197 => k_is); (case h198 => k_is)
    (case h199 => k_is); (case h200 => kernel_rfl); (case h201 => k_is); (case h202 => k_is); (case h203 => k_is); (case h204 => k_is)
    (case h205 => k_is); (case h206 => k_is); (case h207 => k_is); (case h208 => kernel_rfl); (case h209 => kernel_rfl); (case h210 => kernel_rfl)
    (case h211 => kernel_rfl); (case h212 => kernel_rfl); (case h213 => kernel_rfl); (case h214 => kernel_rfl); (case h215 => kernel_rfl); (case h216 => kernel_rfl)
    (case h217 => kernel_rfl); (case h218 => kernel_rfl); (case h219 => kernel_rfl); (case h220 => kernel_rfl); (case h221 => kernel_rfl); (case h222 => kernel_rfl)
    (case h223 => kernel_rfl); (case h224 => kernel_rfl); (case h225 => kernel_rfl); (case h226 => kernel_rfl); (case h227 => kernel_rfl); (case h228 => kernel_rfl)
    (case h229 => kernel_rfl); (case h230 => kernel_rfl); (case h231 => kernel_rfl); (case h232 => kernel_rfl); (case h233 => kernel_rfl); (case h234 => kernel_rfl)
    (case h235 => kernel_rfl); (case h237 => k_is); (case h238 => k_is); (case h239 => k_is); (case h240 => k_is); (case h241 => k_is)
    (case h242 => k_is); (case h243 => k_is); (case h244 => k_is); (case h245 => k_is); (case h246 => k_is); (case h247 => k_is)
    (case h248 => k_is); (case h249 => k_is); (case h250 => k_is); (case h251 => k_is); (case h252 => k_is); (case h253 => k_is)
    (case h254 => k_is); (case h255 => k_is); (case h256 => k_is); (case h257 => k_is); (case h258 => k_is); (case h259 => k_is)
    (case h260 => k_is); (case h261 => k_is); (case h262 => k_is); (case h263 => k_is); (case h264 => k_is); (case h265 => k_is)
    (case h266 => k_is); (case h267 => k_is); (case h268 => k_is); (case h269 => k_is); (case h270 => k_is); (case h271 => k_is)
    (case h272 => k_is); (case h273 => k_is); (case h274 => k_is); (case h275 => k_is); (case h276 => k_is); (case h277 => k_is)
    (case h278 => k_is); (case h279 => k_is); (case h280 => k_is); (case h281 => k_is); (case h282 => k_is); (case h283 => k_is)
    (case h284 => k_is); (case h285 => k_is); (case h286 => k_is); (case h287 => k_is); (case h288 => k_is); (case h289 => k_is)
    (case h290 => k_is); (case h291 => k_is); (case h292 => k_is); (case h293 => k_is); (case h294 => k_is); (case h295 => k_is)
    (case h296 => k_is); (case h297 => k_is); (case h298 => k_is); (case h299 => k_is); (case h300 => k_is); (case h301 => k_is)
    (case h302 => k_is); (case h303 => k_is); (case h304 => k_is); (case h305 => k_is); (case h306 => k_is); (case h307 => k_is)
    (case h308 => k_is); (case h309 => k_is); (case h310 => k_is); (case h311 => k_is); (case h312 => k_is); (case h313 => k_is)
    (case h314 => k_is); (case h315 => k_is); (case h316 => k_is); (case h317 => k_is); (case h318 => k_is); (case h319 => k_is)
    (case h320 => k_is); (case h321 => k_is); (case h322 => k_is); (case h323 => k_is); (case h324 => k_is); (case h325 => k_is)
    (case h326 => k_is); (case h327 => k_is); (case h328 => k_is); (case h329 => k_is); (case h330 => k_is); (case h331 => k_is)
    (case h332 => k_is); (case h333 => k_is); (case h334 => k_is); (case h335 => k_is); (case h336 => k_is); (case h337 => k_is)
    (case h338 => k_is); (case h339 => k_is); (case h340 => k_is); (case h341 => k_is); (case h342 => k_is); (case h343 => k_is)
    (case h344 => k_is); (case h345 => k_is); (case h346 => k_is); (case h347 => k_is); (case h348 => k_is); (case h349 => k_is)
    (case h350 => k_is); (case h351 => k_is); (case h352 => k_is); (case h353 => k_is); (case h354 => k_is); (case h355 => k_is)
    (case h356 => k_is); (case h357 => k_is); (case h358 => k_is); (case h359 => k_is); (case h360 => k_is); (case h361 => k_is)
    (case h362 => k_is); (case h363 => k_is); (case h364 => k_is); (case h365 => k_is); (case h366 => k_is); (case h367 => k_is)
    (case h368 => k_is); (case h369 => k_is); (case h370 => k_is); (case h371 => k_is); (case h372 => k_is); (case h373 => k_is)
    (case h374 => k_is); (case h375 => k_is); (case h376 => k_is); (case h377 => k_is); (case h378 => k_is); (case h379 => k_is)
    (case h380 => k_is); (case h381 => k_is); (case h382 => k_is); (case h383 => k_is); (case h384 => k_is); (case h385 => k_is)
    (case h386 => k_is); (case h387 => k_is); (case h388 => k_is); (case h389 => k_is); (case h390 => k_is); (case h391 => k_is)
    (case h392 => k_is); (case h393 => k_is); (case h394 => k_is); (case h395 => k_is); (case h396 => k_is); (case h397 => k_is)
    (case h398 => k_is); (case h399 => k_is); (case h400 => k_is); (case h401 => k_is); (case h402 => k_is); (case h403 => k_is)
    (case h404 => k_is); (case h405 => k_is); (case h406 => k_is); (case h407 => k_is); (case h408 => k_is); (case h409 => k_is)
    (case h410 => k_is); (case h411 => k_is); (case h412 => k_is); (case h413 => k_is); (case h414 => k_is); (case h415 => k_is)
    (case h416 => k_is); (case h417 => k_is); (case h418 => k_is); (case h419 => k_is); (case h420 => k_is); (case h421 => k_is)
    (case h422 => k_is); (case h423 => k_is); (case h424 => k_is); (case h425 => k_is); (case h426 => k_is); (case h427 => k_is)
    (case h428 => k_is); (case h429 => k_is); (case h430 => k_is); (case h431 => k_is); (case h432 => k_is); (case h433 => k_is)
    (case h434 => k_is); (case h435 => k_is); (case h436 => k_is); (case h437 => k_is); (case h438 => rfl); (case h439 => rfl)
    (case h440 => rfl); (case h441 => rfl); (case h442 => rfl); (case h443 => rfl); (case h444 => rfl); (case h445 => rfl)
    (case h447 => exact Y.2 _ (by decide)); (case h448 => kernel_rfl); (case h449 => k_is); (case h450 => rfl); (case h451 => rfl); (case h452 => rfl)
    (case h453 => rfl); (case h454 => rfl); (case h455 => rfl); (case h456 => rfl); (case h457 => rfl); (case h459 => exact Y.2 _ (by decide))
    (case h460 => kernel_rfl); (case h236 => decide +kernel); (case h446 => decide +kernel); (case h458 => decide +kernel)

