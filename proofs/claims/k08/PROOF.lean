import PyProof.Rows.All
import Wide.All
import OpenK.AllK
import Wide.FinOn
import HandS.HeadHook4
import HandS.Head0
import HandS.Head1
import HandS.Head2
import HandS.ForMost
import HandS.IsInst
import HandS.Style
import HandS.Evl
import HandS.Defaults
import HandS.Walk
import HandS.Zip
import HandS.ClsMeth
import HandS.Deep
import HandS.ListEq
import HandS.DeepEq
import HandS.Exc
import HandS.TryMany
import HandS.ExcField
import HandS.ExcInit
import HandS.ExcOwn
import HandS.WordsExc
import HandS.RaiseMore
import KE.KFmtOwn
import KE.KDictList
import HandS.FStr
import HandS.GenYield
import HandS.IterNext
import HandS.GenList
import HandS.Words
import HandS.More
import HandS.Conv
import HandS.TupSets
import HandS.SortInts
import HandS.Strs
import HandS.Small
import PyProof.Rows.StrMeet
import HandS.Lambda
import HandS.EndTab
import HandS.Star
import KE.GoesEnum
import HandS.Set
import PyProof.Rows.SetFrom
import PyProof.ListRange
import KE.GoesEnumKw
import HandS.SetKeys
import PyProof.DictMoreH
import HandS.TupMul
import KE.KDictZip
import KE.KStar
import HandS.SetFor
import HandS.TupAny
import PyProof.Rows.SortStr
import HandS.DictComp
import PySem.Challenge.RW_pooledeyes_k08_all_partings_told_in_orde
set_option Elab.async false
set_option linter.all false
set_option maxRecDepth 100000
/-! The head by one kernel run, ahead of all else: it wants the memory that the rest would hold. -/
namespace EyesHd
open PySem PySem.Spec PyProof.Rows L2
section
local macro_rules | `(tactic| o_head $H:term) => `(tactic| exact False.elim (by assumption))
set_option maxHeartbeats 0 in
theorem k0 (hf : False) : PySem.Challenge.rw_pooledeyes_k08_all_partings_told_in_orde.Holds := by
  w_on; o_law; k_head
end
abbrev RWo : PySem.W.OpenRow := PySem.W.OpenLaw.row PySem.Challenge.rw_pooledeyes_k08_all_partings_told_in_orde
def lawI : Nat := 46
def hq : Program := PySem.W.view RWo.prog [lawI]
def nm0 : List Str := [("PooledError" : Str), ("InvalidName" : Str), ("InvalidNumber" : Str), ("InvalidText" : Str), ("InvalidCircle" : Str), ("InvalidTie" : Str), ("InvalidParting" : Str), ("InvalidCase" : Str), ("TooMany" : Str), ("Missing" : Str), ("is_number" : Str), ("MOST_LISTED" : Str), ("is_parting" : Str), ("is_item" : Str), ("lots_of" : Str), ("meet_of" : Str), ("join_of" : Str), ("is_within" : Str), ("check_partings" : Str), ("all_partings" : Str)]
def nm1 : List Str := [("linked" : Str), ("by_keys" : Str), ("met" : Str), ("joined" : Str), ("within" : Str), ("_law_bag" : Str), ("_law_draw" : Str), ("_law_of" : Str), ("_law_same" : Str), ("_law_try" : Str), ("_law_why" : Str), ("_law_odd" : Str), ("_law_is_case" : Str), ("_law_is_rows" : Str), ("_law_merged" : Str), ("_law_met" : Str), ("_law_joined" : Str), ("_law_inner" : Str), ("_law_rows" : Str), ("_law_grown" : Str)]
def nm2 : List Str := [("_law_count" : Str), ("_law_listed" : Str)]
def nms : List Str := nm0 ++ nm1 ++ nm2
def lawD : DefRec := HandSHeadRun.topDef RWo.prog lawI
theorem lawD_name : lawD.name = ("law" : Str) := by kernel_rfl
theorem lawD_dfl : lawD.params.defaults = [] := by kernel_rfl
def as0 : List Addr := [2, 3, 15, 22, 23, 24, 25, 28, 35, 37, 38, 40, 41, 42, 43, 44, 47, 54, 56, 57, 59, 60, 61, 62, 63, 66, 73, 75, 76, 78, 79, 80, 81, 82, 85, 92, 94, 95, 97, 98, 99, 100, 101, 104, 111, 113, 114, 116, 117, 118, 119, 120, 123, 130, 132, 133, 135, 136, 137, 138, 139, 142, 149, 151, 152, 154, 155, 156, 157, 158, 161, 168, 170, 171, 173, 174, 175, 176, 177, 180, 187, 188, 189, 190, 193, 195, 196, 198, 199, 200, 203, 204, 205, 207, 208, 210, 211, 212, 215, 216, 217, 219, 220, 222, 223, 224, 226, 227, 229, 230, 231, 233, 234, 236, 237, 238, 240, 241, 243, 244, 245, 248, 249, 250, 252, 253, 255, 256, 257, 259, 260, 262, 263, 264, 266, 267, 269, 270, 271, 274, 275, 276, 279, 280, 281, 283, 284, 286, 287, 288, 290, 291, 293, 294, 295, 297, 298, 300, 301, 302, 305, 306, 307, 309, 310, 312, 313, 314, 316, 317, 319, 320, 321, 323, 324, 326, 327, 328, 330, 331, 333, 334, 335, 337, 338, 340, 341, 342, 345, 346, 347, 350, 351, 352, 355, 356, 357, 360, 361, 362, 364, 365, 367, 368, 369, 372, 373, 374, 376, 377, 379, 380, 381, 383, 384, 386, 387, 388, 391, 392]
noncomputable abbrev hk0 : PySem.W.Hook := PySem.W.kmHook EyesHd.k0.heap_39 as0 (fun _ => by kernel_rfl) [389]
noncomputable def ob0 (s : PySem.W.SharedT) : hk0.α := (as0.map (HandSHeadRun.getT s), [389].map (HandSHeadRun.getT s))
set_option maxHeartbeats 0 in
theorem run0 (w : World) : HandSHeadRun.RunEq RWo hq hk0 ob0 20000 nms w := by
  intro os
  kernel_rfl
set_option maxHeartbeats 0 in
theorem headq (k1 : RWo.wellSaid = true) (hw : RWo.toRowW.promised) (hc : PySem.W.WalkO hq nms (PySem.W.XL hq []) hk0.says RWo.toRowW lawD [] (fun f vs => PySem.call f vs)) : RWo.Holds :=
  HandSHeadRun.head_any (r := RWo) (q := hq) (H := hk0) (ob := ob0) (M := 20000) (loose := nms) (d := lawD) (kwd := [])
    (fun s => by unfold ob0; rw [show HandSHeadRun.getT s = s.abs.heap.get? from funext (HandSHeadRun.getT_eq s)]; rfl) (by kernel_rfl) (fun s => by kernel_rfl) run0 (by kernel_rfl) (by kernel_rfl) (by kernel_rfl) (by rfl) k1 (by decide +kernel) ⟨rfl, rfl, rfl, rfl, rfl, by decide +kernel⟩ hw hc
end EyesHd

set_option Elab.async false
set_option linter.all false
set_option maxRecDepth 100000
set_option maxHeartbeats 4000000
/-! My own short words: a def of the text with its promise, calls of it. -/
namespace Eyes
open PySem PySem.Spec PyProof.Rows L2
def FnAt (K : PySem.W.Frag) (mg : Str → Option Value) (x : Str) (st : Stmt) (ps : List Str) : Prop :=
  ∃ (f : Addr) (fd : FuncData), Fun K x x st f fd ∧ Binds K fd ps [] ∧ mg x = some (.ref f)
def Pr (P : Program) (w : World) (K : PySem.W.Frag) (mg : Str → Option Value) (base : Heap) (x : Str) (st : Stmt) (ps : List Str) (k : Nat) (sp : Sp) : Prop :=
  ∃ (f : Addr) (fd : FuncData), mg x = some (.ref f) ∧ Fun K x x st f fd ∧ Binds K fd ps [] ∧ FnOk P w K mg base CX0 k f fd ps sp
def InitAt (K : PySem.W.Frag) (C : Addr) (qual : Str) (st : Stmt) (ps : List Str) : Prop :=
  ∃ (f : Addr) (fd : FuncData), Mk K C f ∧ Fun K "__init__" qual st f fd ∧ Binds K fd ps []
def PrI (P : Program) (w : World) (K : PySem.W.Frag) (mg : Str → Option Value) (base : Heap) (C : Addr) (ps : List Str) (k : Nat) (sp : Sp) : Prop :=
  ∃ (f : Addr) (fd : FuncData), Mk K C f ∧ Binds K fd ps [] ∧ FnOk P w K mg base CX0 k f fd ps sp
def MethAt (K : PySem.W.Frag) (C : Addr) (m qual : Str) (st : Stmt) (ps : List Str) : Prop :=
  ∃ (f : Addr) (fd : FuncData), Meth K C m f ∧ Fun K m qual st f fd ∧ Binds K fd ps []
def PrM (P : Program) (w : World) (K : PySem.W.Frag) (mg : Str → Option Value) (base : Heap) (C : Addr) (m : Str) (ps : List Str) (k : Nat) (sp : Sp) : Prop :=
  ∃ (f : Addr) (fd : FuncData), Meth K C m f ∧ Binds K fd ps [] ∧ FnOk P w K mg base CX0 k f fd ps sp
structure ClsY (K : PySem.W.Frag) (C : Addr) : Prop where
  ty1 : PySem.W.findIn K (.ref C) "__class__" = some (some (.builtin "object.__class__"))
  ty2 : PySem.W.specialIn K (.builtin "object.__class__") "__get__" = some (some (.builtin "getset_descriptor.__get__"))
  ty3 : PySem.W.takesIn K (.builtin "object.__class__") = some true
  ty4 : PySem.W.mroIn K C (.type "object") = some true
  k_str : PySem.W.kitOne K (.ref C) (.type "str") = some false
  k_int : PySem.W.kitOne K (.ref C) (.type "int") = some false
  k_bool : PySem.W.kitOne K (.ref C) (.type "bool") = some false
  k_list : PySem.W.kitOne K (.ref C) (.type "list") = some false
  k_tuple : PySem.W.kitOne K (.ref C) (.type "tuple") = some false
  k_dict : PySem.W.kitOne K (.ref C) (.type "dict") = some false
section
variable {P : Program} {w : World} {K : PySem.W.Frag} {mg : Str → Option Value} {base : Heap}
abbrev BindH (x qual : Str) (st : Stmt) (ps : List Str) : Prop := ∀ (kV doc pm : Value) (an : Option Addr) (cdv ct : Value) (us : List Value), us.length = ps.length → bindArgs (PySem.W.fnOf x qual (defArgs st) (defBody st) (defScope st) .none kV doc pm an cdv ct) ⟨us, []⟩ = pure (ps.zip us)
theorem fnAt_mk {h : Heap} (X : K.In h) (G : h.Ns mainGlobals mg) {x : Str} {st : Stmt} {ps : List Str} {f : Addr} {oc : Value} {od an : Option Addr} {osl : Array (Option Value)} {kV doc pm cdv ct : Value} (a : PySem.W.nsIn K mainGlobals x = some (some (.ref f)))
    (l : K.lookup f = some ⟨oc, od, .func (PySem.W.fnOf x x (defArgs st) (defBody st) (defScope st) .none kV doc pm an cdv ct), osl⟩) (c : PySem.W.codeIn K cdv x = true) (k : PySem.W.keepIn K (.ref f) = true) (hb : BindH x x st ps) : FnAt K mg x st ps :=
  ⟨f, _, fun_mk l c k, (fun_mk l c k).binds hb, PySem.W.mg_of X G a⟩
theorem pr_mk {x : Str} {st : Stmt} {N ps : List Str} {k : Nat} {sp : Sp} (A : FnAt K mg x st ps) (S : FnScope N ps (defScope st)) (len : ∀ vs H Q E, sp vs H Q E → vs.length = ps.length)
    (hbody : ∀ (f : Addr) (cdv : Value) (A : Around) (outer : List Env) (s : Shared) (H : Hp) (vs : List V) (Q : VK) (E : XK), Room k (A.deeper (envOfC x (defScope st) s.heap.objs.size f cdv)) → sp vs H Q E →
      ∃ t, PSs (cxOf CX0 P w K mg base N x (defScope st) f cdv A outer s H E).nox (defBody st) t ∧ t { nx := fun _ H' => Q .non H', rt := Q } (start N vs) H) : Pr P w K mg base x st ps (k + 1) sp := by
  obtain ⟨f, fd, F, hb, hm⟩ := A
  exact ⟨f, fd, hm, F, hb, F.ok S len fun cdv A outer s H vs Q E hr h => hbody f cdv A outer s H vs Q E hr h⟩
end
def pick {α : Type} (is : List Nat) (xs : List α) : List α := is.filterMap fun i => xs[i]?
theorem pick_vals {vs : List V} {us : List Value} (r : Vals vs us) : ∀ is : List Nat, Vals (pick is vs) (pick is us)
  | [] => .nil
  | i :: is => by
    unfold pick
    rw [List.filterMap_cons, List.filterMap_cons]
    cases h : vs[i]? with
    | none =>
      rw [r.none_of h]
      exact pick_vals r is
    | some v =>
      obtain ⟨u, hu, rv⟩ := r.get h
      rw [hu]
      exact .cons rv (pick_vals r is)
section
variable {X : Cx} {x : Str} {st : Stmt} {ps : List Str} {sp : Sp} {e : Expr} {es : List Expr} {kws : List Keyword} {p pos : Pos} {t tk : TA}
theorem pcall {j k : Nat} (G : Pr X.prog X.w X.K X.mg X.base x st ps j sp) (hr : Room k X.A) (ha : PA X (e :: es) t) (hj : j ≤ k := by first | decide | omega) (hg : Gl X x := by rfl)
    (hdb : (x == ("__debug__" : Str)) = false := by decide) (he : starEach (e :: es) X.env = (false, eval e X.env) :: starEach es X.env := by rfl) (hpl : (backTo pos (starEach es X.env)).any (·.1) = false := by rfl) :
    PE X (.Call (.Name x p) (e :: es) [] pos) (tCall sp [] (fun _ _ _ => False) t) := by
  obtain ⟨f, fd, hm, F0, hb, F⟩ := G
  exact pe_call F (hr.mono hj) hg hm F0.kp hb .nil (fun _ _ _ _ _ _ _ h => h.elim) ha hdb he hpl
def KwOk (x : Str) (st : Stmt) (ps : List Str) (n : Nat) (ks : List Str) (is : List Nat) : Prop :=
  ∀ (kV doc pm : Value) (an : Option Addr) (cdv ct : Value) (us ws : List Value), us.length = n → ws.length = ks.length → bindArgs (PySem.W.fnOf x x (defArgs st) (defBody st) (defScope st) .none kV doc pm an cdv ct) ⟨us, ks.zip ws⟩ = pure (ps.zip (pick is (us ++ ws)))
theorem kbn {K : PySem.W.Frag} {f : Addr} {fd : FuncData} {n : Nat} {ks : List Str} {is : List Nat} (F : Fun K x x st f fd) (h : KwOk x st ps n ks is) : KBn K fd ps n ks (fun us ws => pick is (us ++ ws)) (fun vs zs => pick is (vs ++ zs)) := by
  obtain ⟨oc, od, kV, doc, pm, an, cdv, ct, osl, rfl, lk, hcd⟩ := F.ex
  exact ⟨fun s us ws _ h1 h2 => .of_eq (h kV doc pm an cdv ct us ws h1 h2), fun r1 r2 => pick_vals (Vals.append r1 r2) is⟩
theorem pgI {i : Int} (h : ∃ t, X.mg x = some (.int i t)) (hg : Gl X x := by rfl) (hd : (x == ("__debug__" : Str)) = false := by decide) : PE X (.Name x p) (tC (.int i)) := by
  obtain ⟨t, h⟩ := h
  exact pe_glob hg h ⟨t, rfl⟩ hd
end
end Eyes

set_option Elab.async false
set_option linter.all false
set_option maxRecDepth 100000
set_option maxHeartbeats 4000000
/-! try with several clauses that name what they catch. -/
namespace Eyes
open PySem PySem.Spec PyProof.Rows L2
def endsAs (D : Ends) (j : Nat) : Ends := { nx := fun τ G => D.nx (τ.set j none) G, rt := D.rt, bk := fun τ G => D.bk (τ.set j none) G, ct := fun τ G => D.ct (τ.set j none) G }
def wAll (K : PySem.W.Frag) (D : Ends) : List (Value × Nat × (Addr → Value → Option Addr → TS)) → WX
  | [] => fun _ _ _ _ => False
  | (c, j, ts) :: r => fun cls d τ G => ∃ y, PySem.W.exmOne K cls c = some y ∧ (y = true → ∀ e, G e = none → ts e cls d (endsAs D j) (τ.set j (some (.ref e))) G) ∧ (y = false → wAll K D r cls d τ G)
inductive HdsAs (X : Cx) : List ExceptHandler → List (Value × Nat × (Addr → Value → Option Addr → TS)) → Prop
  | rest {hds : List ExceptHandler} : HdsAs X hds []
  | cons {x n : Str} {c : Value} {j : Nat} {ts : Addr → Value → Option Addr → TS} {st0 : Stmt} {sts : List Stmt} {p1 p2 : Pos} {hds : List ExceptHandler} {l : List (Value × Nat × (Addr → Value → Option Addr → TS))} (hc : Names X x c) (hi : X.N[j]? = some n) (hl : X.env.kindOf n = some .local)
      (su : ∀ (e : Addr) (oe : Obj) (cls : Value) (d : Option Addr) (pn : List (Addr × Obj)), Zc cls d oe → (∃ fs, oe.data = .fields fs) → PSs (X.suite e ((e, oe) :: pn)) (st0 :: sts) (ts e cls d)) (r : HdsAs X hds l) :
      HdsAs X (.ExceptHandler (some (.Name x p1)) (some n) (st0 :: sts) p2 :: hds) ((c, j, ts) :: l)
section
variable {X : Cx} {body : List Stmt} {h1 : ExceptHandler} {hds : List ExceptHandler} {l : List (Value × Nat × (Addr → Value → Option Addr → TS))} {pos : Pos} {tb : WX → TS}
theorem clauses_as {pins : List (Addr × Obj)} {τ : L2.St} {G : Hp} {D : Ends} {e : Addr} {B : Heap} {sI s1 : Shared} {cls : Value} {d : Option Addr} (ok : X.Ok) (hs : X.stack = X.env :: X.outer) (hf : X.env.frame = some X.env.locals) (hN : X.N.Nodup)
    (J : Inv X pins τ G sI) (nb : ∀ b o, sI.heap.get? b = some o → b ∉ frs X.stack → B.get? b = some o) (up : sI.heap.UpToSlots s1.heap) (fl : HandSPX.FlyingZ B (X.env :: X.outer) e (Zc cls d) s1.heap) (na : G e = none) (os : s1.os = sI.os) (ag : AllBare s1.gens)
    (nL : e ≠ X.env.locals) (nF : e ∉ X.fs) {hs' : List ExceptHandler} {l' : List (Value × Nat × (Addr → Value → Option Addr → TS))} (hh : HdsAs X hs' l') :
    wAll X.K D l' cls d τ G → wpAny (model X.prog X.w) X.A (handleBy (.ref e) X.env hs') (SP X pins D) X.xe s1 := by
  induction hh with
  | rest => exact fun z => z.elim
  | @cons x n c j ts st0 sts p1 p2 hds2 l2 hc hi hl su r ih =>
    rintro ⟨y, hy, yes, no⟩
    obtain ⟨oe, fs, he, hz, hd⟩ := fl.there
    have here : Inv X pins τ G s1 := J.landed nb fl.1 up os ag
    have inS := here.suite he hd na nL nF
    have cl : PySem.W.Looks (model X.prog X.w) s1.heap (typeOf (.ref e)) cls := fun A' Q' E' s' kp q => wpAny_typeOf_ref (kp _ _ he) (by rw [hz.1]; exact q)
    have mt := PySem.W.exm_one (M := model X.prog X.w) here.kIn cl hy
    have named : ∀ {Q' E' : Value → Shared → Prop}, Q' c s1 → wpAny (model X.prog X.w) (X.A.mark (some (.ref e))) (eval (.Name x p1) X.env) Q' E' s1 := by
      intro Q' E' q
      obtain ⟨g1, g2, g3 | ⟨g3, g4, g5⟩⟩ := hc
      · exact ld_glob (X := X.suite e ((e, oe) :: (X.pn ++ pins))) inS g1 g3 q g2
      · exact ld_blt (X := X.suite e ((e, oe) :: (X.pn ++ pins))) inS g1 g3 g4 q g5 g2
    refine wpAny_handleBy_cons (codeAny_handlers_test (named (mt.here ?_))) (fun z => nomatch z)
    cases y with
    | false => exact ih (no rfl)
    | true =>
      refine codeAny_handlers_suite_as (HandSPX.lands_againZ fl fun h4 fl4 up4 => ?_)
      obtain ⟨oe4, fs4, he4, hz4, hd4⟩ := fl4.there
      have at4 : Inv X pins τ G { s1 with heap := h4 } := J.landed nb fl4.1 (up.trans up4) os ag
      refine store_ok (X := X.suite e ((e, oe4) :: (X.pn ++ pins))) (v := .ref e) (at4.suite he4 hd4 na nL nF) hN hi (.inl hl) rfl (fun s5 I5 => ?_) (.inr hl)
      refine wpAny_mono ((su e oe4 cls d (X.pn ++ pins) hz4 ⟨_, hd4⟩).run [] s5 _ G _ I5 (yes rfl e na)) (fun f s6 q6 => ?_) (fun _ _ z => z.elim)
      have bare : ∀ {τ6 : L2.St} {G6 : Hp} {Q' : Shared → Prop}, Inv (X.suite e ((e, oe4) :: (X.pn ++ pins))) [] τ6 G6 s6 → (∀ s7, Inv X pins (τ6.set j none) G6 s7 → Q' s7) →
          wpAny (model X.prog X.w) X.A (do bindName X.env n .none; unbindBehindTheSuite X.env n p2) (fun _ s7 => Q' s7) X.xe s6 := fun {τ6 G6 Q'} I6 q => gone_ok (I6.unsuite ok) hN hi hl q
      cases f with
      | next =>
        obtain ⟨τ6, G6, I6, w6⟩ := q6
        exact bare I6 fun s7 I7 => ⟨_, _, I7, w6⟩
      | brk =>
        obtain ⟨τ6, G6, I6, w6⟩ := q6
        exact bare I6 fun s7 I7 => ⟨_, _, I7, w6⟩
      | cont =>
        obtain ⟨τ6, G6, I6, w6⟩ := q6
        exact bare I6 fun s7 I7 => ⟨_, _, I7, w6⟩
      | ret u =>
        obtain ⟨v6, τ6, G6, I6, r6, w6⟩ := q6
        exact bare I6 fun s7 I7 => ⟨_, _, _, I7, r6, w6⟩
theorem ps_tryAs (hs : X.stack = X.env :: X.outer) (hf : X.env.frame = some X.env.locals) (hN : X.N.Nodup)
    (hb : ∀ (W : WX) (pn : List (Addr × Obj)) (xe : Value → Shared → Prop), Takes (X.tr pn xe) W → PassesOwn (model X.prog X.w) X.A X.env xe → PSs (X.tr pn xe) body (tb W)) (hh : HdsAs X (h1 :: hds) l) :
    PS X (.Try body (h1 :: hds) [] [] pos) (fun D τ G => tb (wAll X.K D l) D τ G) := by
  refine ⟨fun pins s τ G D I h => ?_⟩
  have ok := I.ok
  have stk : X.A.frames = some (X.env :: X.outer) := ok.frames.trans (by rw [hs])
  have out : Takes (X.tr (X.pn ++ pins) (fun u s2 => wpAny (model X.prog X.w) X.A (noteFrame u X.env) (fun _ s3 => wpAny (model X.prog X.w) X.A (setFlight u none) (fun _ s4 => wpAny (model X.prog X.w) X.A (handleBy u X.env (h1 :: hds)) (SP X pins D) X.xe s4) X.xe s3) X.xe s2)) (wAll X.K D l) := by
    rintro u s' ⟨e, B, sI, pins', τ', G', cls, d, rfl, J', nb, up, sky, na, os, ag, w⟩
    have J : Inv X pins τ' G' sI := J'.ofTry ok
    refine Sky.land (B := B) (L := X.env.locals) (Z := Zc cls d) Zc.steady stk hf (by rw [← hs]; exact sky) fun h3 fl up3 => ?_
    obtain ⟨oe, fs, he, hz, hd⟩ := fl.there
    have away : e ∉ frs (X.env :: X.outer) := fun hm => by
      obtain ⟨_, o', e', nf⟩ := fl.2.2.1.mem hm
      cases he.symm.trans e'
      exact nf _ hd
    refine clauses_as (s1 := { s' with heap := h3 }) ok hs hf hN J nb (up.trans up3) fl na os ag (fun z => away (List.mem_filterMap.mpr ⟨X.env, List.mem_cons_self, by rw [hf, z]⟩)) (fun hm => ?_) hh w
    obtain ⟨v, hv, q⟩ := List.mem_filterMap.mp hm
    exact away (List.mem_filterMap.mpr ⟨v, List.mem_cons_of_mem _ hv, q⟩)
  refine wpAny_Try_except (wpAny_mono ((hb _ _ _ out PassesOwn.looking).run [] s τ G D (I.toTry _) h) (fun f s1 q => ?_) fun _ _ z => z)
  cases f with
  | next =>
    obtain ⟨τ1, G1, I1, w1⟩ := q
    exact wpAny_execs_nil ⟨τ1, G1, I1.ofTry ok, w1⟩
  | brk =>
    obtain ⟨τ1, G1, I1, w1⟩ := q
    exact ⟨τ1, G1, I1.ofTry ok, w1⟩
  | cont =>
    obtain ⟨τ1, G1, I1, w1⟩ := q
    exact ⟨τ1, G1, I1.ofTry ok, w1⟩
  | ret u =>
    obtain ⟨v1, τ1, G1, I1, r1, w1⟩ := q
    exact ⟨v1, τ1, G1, I1.ofTry ok, r1, w1⟩
end
end Eyes

set_option Elab.async false
set_option linter.all false
set_option maxRecDepth 100000
set_option maxHeartbeats 4000000
/-! Defs that may raise an own error; own errors that bear what they are given. -/
namespace Eyes
open PySem PySem.Spec PyProof.Rows L2
def PrX (P : Program) (w : World) (K : PySem.W.Frag) (mg : Str → Option Value) (base : Heap) (x : Str) (st : Stmt) (ps : List Str) (k : Nat) (sp : Sp) : Prop :=
  ∃ (f : Addr) (fd : FuncData), mg x = some (.ref f) ∧ Fun K x x st f fd ∧ Binds K fd ps [] ∧ FnOk P w K mg base (L2.CX P w) k f fd ps sp
section
variable {P : Program} {w : World} {K : PySem.W.Frag} {mg : Str → Option Value} {base : Heap}
theorem prx_mk {x : Str} {st : Stmt} {N ps : List Str} {k : Nat} {sp : Sp} (A : FnAt K mg x st ps) (S : FnScope N ps (defScope st)) (len : ∀ vs H Q E, sp vs H Q E → vs.length = ps.length)
    (hbody : ∀ (f : Addr) (cdv : Value) (A : Around) (outer : List Env) (s : Shared) (H : Hp) (vs : List V) (Q : VK) (E : XK), Room k (A.deeper (envOfC x (defScope st) s.heap.objs.size f cdv)) → sp vs H Q E →
      Takes (cxOf (L2.CX P w) P w K mg base N x (defScope st) f cdv A outer s H E) (fun cls d _ G => E cls d G) →
      ∃ t, PSs (cxOf (L2.CX P w) P w K mg base N x (defScope st) f cdv A outer s H E) (defBody st) t ∧ t { nx := fun _ H' => Q .non H', rt := Q } (start N vs) H) : PrX P w K mg base x st ps (k + 1) sp := by
  obtain ⟨f, fd, F, hb, hm⟩ := A
  exact ⟨f, fd, hm, F, hb, F.okX S len fun cdv A outer s H vs Q E hr h => hbody f cdv A outer s H vs Q E hr h (takes_of rfl rfl rfl rfl)⟩
theorem noneX : ∀ {outer : List Env} {s : Shared} {H : Hp} {e : Value} {s' : Shared}, L2.CX P w outer H s (fun _ _ _ => False) e s' → False := fun {outer s H e s'} h => by
  obtain ⟨_, _, _, _, _, _, _, _, _, _, _, _, z⟩ := h
  exact z
end
section
variable {X : Cx} {x : Str} {st : Stmt} {ps : List Str} {sp : Sp} {e : Expr} {es : List Expr} {kws : List Keyword} {p pos : Pos} {t tk : TA} {W : WX}
theorem pcallX {j k : Nat} (G : PrX X.prog X.w X.K X.mg X.base x st ps j sp) (hr : Room k X.A) (tk : Takes X W) (ha : PA X (e :: es) t) (hj : j ≤ k := by first | decide | omega) (hg : Gl X x := by rfl)
    (hdb : (x == ("__debug__" : Str)) = false := by decide) (he : starEach (e :: es) X.env = (false, eval e X.env) :: starEach es X.env := by rfl) (hpl : (backTo pos (starEach es X.env)).any (·.1) = false := by rfl) :
    PE X (.Call (.Name x p) (e :: es) [] pos) (tCallS sp (WE W) t) := by
  obtain ⟨f, fd, hm, F0, hb, F⟩ := G
  exact pe_callS F (hr.mono hj) hg hm F0.kp hb (fun σ => passAt tk σ) ha hdb he hpl
theorem pcallY {j k : Nat} (G : PrX X.prog X.w X.K X.mg X.base x st ps j sp) (hr : Room k X.A) (ha : PA X (e :: es) t) (hj : j ≤ k := by first | decide | omega) (hg : Gl X x := by rfl)
    (hdb : (x == ("__debug__" : Str)) = false := by decide) (he : starEach (e :: es) X.env = (false, eval e X.env) :: starEach es X.env := by rfl) (hpl : (backTo pos (starEach es X.env)).any (·.1) = false := by rfl) :
    PE X (.Call (.Name x p) (e :: es) [] pos) (tCall sp [] (fun _ _ _ => False) t) := by
  obtain ⟨f, fd, hm, F0, hb, F⟩ := G
  exact pe_call F (hr.mono hj) hg hm F0.kp hb .nil (fun _ _ _ _ _ _ _ h => (noneX h).elim) ha hdb he hpl
end
/-! ### own errors -/
structure ErrAt (K : PySem.W.Frag) (mg : Str → Option Value) (x : Str) (C : Addr) (qual : Str) (st : Stmt) (ps : List Str) : Prop where
  gC : mg x = some (.ref C)
  oex : OexC K C
  xf : XfC K C
  fn : ∃ (f : Addr) (fd : FuncData), PySem.W.findIn K (.ref C) "__init__" = some (some (.ref f)) ∧ PySem.W.typeIn K (.ref f) = some (.type "function") ∧ Fun K "__init__" qual st f fd ∧ Binds K fd ps []
theorem errAt_mk {K : PySem.W.Frag} {h : Heap} {mg : Str → Option Value} (X : K.In h) (G : h.Ns mainGlobals mg) {x qual : Str} {C f : Addr} {st : Stmt} {ps : List Str} {oc : Value} {od an : Option Addr} {osl : Array (Option Value)} {kV doc pm cdv ct : Value}
    {nm q : Str} {N : Addr} {bs bm sub : List Value} {sn : List Str} {ab : Bool} {col : Option Bool} {dd : Option Addr} {k0 k1 k2 k3 k5 : Option Value}
    (a : PySem.W.nsIn K mainGlobals x = some (some (.ref C))) (c1 : K.lookup C = some (excClassObj nm q C N bs bm true sn sub ab col dd k0 k1 k2 k3 k5 "ValueError.__new__")) (c2 : PySem.HandSPX.refsVE bm = true)
    (c3 : PySem.W.findIn K (.ref C) "__setattr__" = some (some (.builtin "object.__setattr__"))) (c4 : PySem.W.subIn K (.ref C) (.type "BaseException") = some true) (c5 : PySem.W.typeIn K (.ref C) = some (.type "type")) (c6 : PySem.W.keepIn K (.ref C) = true)
    (c7 : xfB K C = true) (i1 : PySem.W.findIn K (.ref C) "__init__" = some (some (.ref f))) (i2 : PySem.W.typeIn K (.ref f) = some (.type "function"))
    (l : K.lookup f = some ⟨oc, od, .func (PySem.W.fnOf "__init__" qual (defArgs st) (defBody st) (defScope st) .none kV doc pm an cdv ct), osl⟩) (c : PySem.W.codeIn K cdv qual = true) (k : PySem.W.keepIn K (.ref f) = true) (hb : BindH "__init__" qual st ps) : ErrAt K mg x C qual st ps :=
  ⟨PySem.W.mg_of X G a, ⟨⟨_, _, _, _, _, _, _, _, _, _, _, _, _, _, _, c1, c2⟩, c3, c4, c5, c6⟩, xfB_ok c7, f, _, i1, i2, fun_mk l c k, (fun_mk l c k).binds hb⟩
def spErr1 (C : Addr) (g : Str) : Sp := fun vs H Q _ => ∃ (a : Addr) (v : V), vs = [.ref a, v] ∧ H a = some (exo a C none) ∧ ∀ d, H d = none → d ≠ a → Q .non (upd (upd H d (exd d [(g, v)])) a (exo a C (some d)))
theorem gone_to {H1 : Hp} {a d : Addr} {o1 o2 o3 o4 : HO} (n : H1 a = none) (ne : d ≠ a) : upd (del (upd (upd (upd H1 a o1) d o2) a o3) a) d o4 = upd H1 d o4 := by
  funext b
  by_cases hb : b = d
  · rw [hb, upd_same, upd_same]
  · rw [upd_ne hb, upd_ne hb]
    by_cases ha : b = a
    · rw [ha, del_same, n]
    · rw [del_ne ha, upd_ne ha, upd_ne hb, upd_ne ha]
section
variable {X : Cx} {W : WX} {e : Expr} {ta : TA} {p pos pos2 : Pos} {x g qual : Str} {C : Addr} {st : Stmt} {ps : List Str} {j k : Nat}
theorem raise1_by {H1 : Hp} {v : V} {Q : XK} (q : ∀ d, H1 d = none → Q (.ref C) (some d) (upd H1 d (.xd [(g, v)]))) :
    [v].length ≤ 1000 ∧ ∀ a, H1 a = none → spErr1 C g (.ref a :: ([v] ++ [])) (upd H1 a (exo a C none)) (fun v H2 => v = .non ∧ ∃ (d : Addr) (fs : List (Str × V)), H2 a = some (exo a C (some d)) ∧ H2 d = some (exd d fs) ∧ H1 d = none ∧ Q (.ref C) (some d) (upd (del H2 a) d (.xd fs))) (fun _ _ _ => False) := by
  refine ⟨by show 1 ≤ 1000; decide, fun a na => ⟨a, v, rfl, upd_same, fun d nd ne => ?_⟩⟩
  rw [upd_ne ne] at nd
  refine ⟨rfl, d, _, upd_same, (upd_ne ne).trans upd_same, nd, ?_⟩
  rw [gone_to na ne]
  exact q d nd
theorem ps_raise1 (T : ErrAt X.K X.mg x C qual st ps) (F : ∀ f fd, Fun X.K "__init__" qual st f fd → Binds X.K fd ps [] → FnOk X.prog X.w X.K X.mg X.base CX0 j f fd ps (spErr1 C g)) (hc : X.calm = true) (tk : Takes X W) (hr : Room k X.A) (ha : PA X [e] ta) (hj : j + 1 ≤ k := by first | decide | omega) (hg : Gl X x := by rfl)
    (hdb : (x == ("__debug__" : Str)) = false := by decide) (he : starEach [e] X.env = (false, eval e X.env) :: starEach [] X.env := by rfl) (hpl : (backTo pos (starEach [] X.env)).any (·.1) = false := by rfl) :
    PS X (.Raise (some (.Call (.Name x p) [e] [] pos)) none pos2) (fun _ σ H => tMkO C (spErr1 C g) [] ta σ H fun cls d H' => W cls d σ H') := by
  obtain ⟨f, fd, i1, i2, F0, hb⟩ := T.fn
  exact ps_raise hc tk (pmk_oex T.oex i1 i2 (F f fd F0 hb) (hr.mono hj) hb .nil (fun _ _ _ _ _ _ _ h => h.elim) hg T.gC ha hdb he hpl)
end
end Eyes

set_option Elab.async false
set_option linter.all false
set_option maxRecDepth 100000
set_option maxHeartbeats 4000000
/-! A def may be called over a part of the heap: what is left out stays as it is. -/
namespace Eyes
open PySem PySem.Spec PyProof.Rows L2 Evl
def mrg (G G' H : Hp) : Hp := fun a => match G a with
  | some _ => G' a
  | none => match H a with
    | some o => some o
    | none => G' a
theorem mrg_in {G G' H : Hp} {a : Addr} {o : HO} (h : G a = some o) : mrg G G' H a = G' a := by
  unfold mrg
  rw [h]
theorem mrg_out {G G' H : Hp} {a : Addr} {o : HO} (h : G a = none) (e : H a = some o) : mrg G G' H a = some o := by
  unfold mrg
  rw [h, e]
theorem mrg_new {G G' H : Hp} {a : Addr} (h : G a = none) (e : H a = none) : mrg G G' H a = G' a := by
  unfold mrg
  rw [h, e]
structure Cl (G : Hp) : Prop where
  own : ∀ a C dx fs, G a = some (.ins C dx fs) → G dx = some (.own a)
  ins : ∀ a b, G b = some (.own a) → ∃ C fs, G a = some (.ins C b fs)
  dT : ∀ a kvs, G a ≠ some (.dT kvs)
  frz : ∀ a o u, G a ≠ some (.frz o u)
  tbl : ∀ a ps, G a ≠ some (.tbl ps)
def Own1 (G : Hp) : Prop := ∀ a C dx fs, G a = some (.ins C dx fs) → G dx = some (.own a)
def spFr (sp : Sp) : Sp := fun vs H Q _ => ∃ G : Hp, Ex G H ∧ Cl G ∧ sp vs G (fun v G' => (∀ a o, H a = some o → G a = none → G' a = none) → Own1 G' → Q v (mrg G G' H)) (fun _ _ _ => False)
section
variable {P : Program} {w : World} {G G' H H' : Hp} {h h' : Heap}
theorem HOk.sub (x : HOk P w H h) (e : Ex G H) (c : Cl G) : HOk P w G h := fun a o g => by
  have y := x a o (e a o g)
  cases o with
  | lst xs => exact y
  | tup xs => exact y
  | dK kvs => exact y
  | dT kvs => exact absurd g (c.dT a kvs)
  | set S n => exact y
  | ins C dx fs =>
    obtain ⟨_, y⟩ := y
    exact ⟨c.own a C dx fs g, y⟩
  | own z => exact y
  | xd fs => exact y
  | rng lo hi => exact y
  | frz ob u => exact absurd g (c.frz a ob u)
  | tbl ps => exact y
  | met f z => exact y
  | ext φ => exact y
theorem obj_of {H : Hp} {h : Heap} {a : Addr} {o : HO} (x : ObjOk P w H h a o) : ∃ ob, h.get? a = some ob := by
  cases o with
  | lst xs => obtain ⟨_, _, _, _, e⟩ := x; exact ⟨_, e⟩
  | tup xs => obtain ⟨_, _, _, ob, e, _⟩ := x; exact ⟨_, e⟩
  | dK kvs => obtain ⟨_, _, _, _, o, _, _, e, _⟩ := x; exact ⟨_, e⟩
  | dT kvs => obtain ⟨_, _, _, _, o, _, _, e, _⟩ := x; exact ⟨_, e⟩
  | set S n => obtain ⟨o, _, _, _, e, _⟩ := x; exact ⟨_, e⟩
  | ins C dx fs => obtain ⟨_, _, _, e, _⟩ := x; exact ⟨_, e⟩
  | own y => exact x
  | xd fs => obtain ⟨_, ⟨_, _, _, e, _⟩, _⟩ := x; exact ⟨_, e⟩
  | rng lo hi => obtain ⟨_, _, _, e⟩ := x; exact ⟨_, e⟩
  | frz ob u => obtain ⟨e, _⟩ := x; exact ⟨_, e⟩
  | tbl ps => exact ⟨_, (show h.get? a = some _ from x)⟩
  | met f y => exact ⟨_, (show h.get? a = some _ from x)⟩
  | ext φ => obtain ⟨_, e, _⟩ := x; exact e
theorem mrg_ex (u : ∀ a o, H a = some o → G a = none → G' a = none) : Ex G' (mrg G G' H) := fun a o e => by
  cases g : G a with
  | some o2 => rw [mrg_in g]; exact e
  | none =>
    cases k : H a with
    | some o2 =>
      have := u a o2 k g
      rw [this] at e
      cases e
    | none => rw [mrg_new g k]; exact e
theorem mrg_hok (x : HOk P w H h) (x' : HOk P w G' h') (e : Ex G H) (c : Cl G) (u : ∀ a o, H a = some o → G a = none → G' a = none) (ht : ∀ b xs, G b = some (.tup xs) → G' b = some (.tup xs))
    (kp : ∀ b o o2, h.get? b = some o → H b = some o2 → G b = none → h'.get? b = some o) : HOk P w (mrg G G' H) h' := fun a o q => by
  have tups : ∀ b xs, H b = some (.tup xs) → mrg G G' H b = some (.tup xs) := fun b xs z => by
    cases g : G b with
    | some o2 =>
      have := e b o2 g
      rw [z] at this
      cases this
      rw [mrg_in g]
      exact ht b xs g
    | none => exact mrg_out g z
  have inner : G' a = some o → ObjOk P w (mrg G G' H) h' a o := fun q2 =>
    (x' a o q2).stay (fun b u _ r => r) (fun b r => mrg_ex u b _ r) (fun b xs r => mrg_ex u b _ r)
  cases g : G a with
  | some o2 =>
    rw [mrg_in g] at q
    exact inner q
  | none =>
    cases k : H a with
    | some o2 =>
      rw [mrg_out g k] at q
      cases q
      have y := x a o k
      have no : ∀ b, H b = some (.own a) → G b = none := fun b hb => by
        cases gb : G b with
        | none => rfl
        | some o3 =>
          have := e b o3 gb
          rw [hb] at this
          cases this
          obtain ⟨C, fs, hi⟩ := c.ins a b gb
          rw [g] at hi
          cases hi
      refine y.stay (fun b u hb r => ?_) (fun b hb => mrg_out (no b hb) hb) tups
      rcases hb with rfl | hb
      · exact kp b u o r k g
      · exact kp b u _ r hb (no b hb)
    | none =>
      rw [mrg_new g k] at q
      exact inner q
end
section
variable {P : Program} {w : World} {K : PySem.W.Frag} {mg : Str → Option Value} {base : Heap}
theorem FnOk.frame {CX : CXT} (hcx : ∀ {outer : List Env} {s : Shared} {H : Hp} {e : Value} {s' : Shared}, CX outer H s (fun _ _ _ => False) e s' → False) {k : Nat} {f : Addr} {fd : FuncData} {ps : List Str} {sp : Sp} (F : FnOk P w K mg base CX k f fd ps sp) : FnOk P w K mg base CX0 k f fd ps (spFr sp) := by
  refine ⟨fun vs H Q E h => ?_, fun A outer s H args us vs Q E hr e0 hb hv h => ?_⟩
  · obtain ⟨G, _, _, h⟩ := h
    exact F.len _ _ _ _ h
  · obtain ⟨G, e, c, h⟩ := h
    have none_ : ∀ {b : Addr}, H b = none → G b = none := fun {b} z => fresh_back e z
    have e1 : Env0 P w K mg base A outer s G := ⟨e0.frames, e0.mod, fun b o q => ⟨(e0.bs b o q).1, none_ (e0.bs b o q).2⟩, e0.bsz, e0.funs, fun b hb => none_ (e0.frf b hb), HOk.sub e0.hok e c, e0.bare⟩
    refine codeAny_mono (F.run A outer s G args us vs _ _ hr e1 hb hv h) fun r s' hq => ?_
    cases r with
    | error er => exact (hcx hq).elim
    | ok fl =>
      cases fl with
      | next => exact hq
      | brk => exact hq
      | cont => exact hq
      | ret u =>
        obtain ⟨v, G', os, bare, un, hok, rv, q⟩ := hq
        have nex : ∀ {b : Addr}, b ∉ ([] : List Addr) := fun {b} z => nomatch z
        have at_ : ∀ b o, H b = some o → ∃ ob, s.heap.get? b = some ob := fun b o hb => obj_of (e0.hok b o hb)
        have uf : ∀ a o, H a = some o → G a = none → G' a = none := fun a o ha ga => by
          obtain ⟨ob, hob⟩ := at_ a o ha
          exact un.free a ob hob ga nex
        have own1 : Own1 G' := fun a C dx fs g => by
          obtain ⟨z, _⟩ := hok a _ g
          exact z
        refine ⟨v, mrg G G' H, os, bare, ?_, ?_, rv, q uf own1⟩
        · refine ⟨fun b o hb n hfs hx => un.keep b o hb (none_ n) hfs hx, fun b o hb n hfs hx => un.slot b o hb (none_ n) hfs hx, fun b o hb n hx => ?_, un.there, fun b xs hb => ?_, fun b o u2 hb => ?_, fun b ps hb => ?_⟩
          · rw [mrg_new (none_ n) n]
            exact un.free b o hb (none_ n) hx
          · cases g : G b with
            | some o2 =>
              have := e b o2 g
              rw [hb] at this
              cases this
              rw [mrg_in g]
              exact un.tups b xs g
            | none => exact mrg_out g hb
          · cases g : G b with
            | some o2 =>
              have := e b o2 g
              rw [hb] at this
              cases this
              rw [mrg_in g]
              exact un.frzs b o u2 g
            | none => exact mrg_out g hb
          · cases g : G b with
            | some o2 =>
              have := e b o2 g
              rw [hb] at this
              cases this
              rw [mrg_in g]
              exact un.tbls b ps g
            | none => exact ⟨#[], by rw [mrg_out g hb]; simp⟩
        · refine mrg_hok e0.hok hok e c uf un.tups fun b o o2 hb h2 gb => un.keep b o hb gb (fun hf => ?_) nex
          have := e0.frf b hf
          rw [h2] at this
          cases this
theorem Pr.frame {x : Str} {st : Stmt} {ps : List Str} {k : Nat} {sp : Sp} (G : Pr P w K mg base x st ps k sp) : Pr P w K mg base x st ps k (spFr sp) := by
  obtain ⟨f, fd, hm, F, hb, R⟩ := G
  exact ⟨f, fd, hm, F, hb, FnOk.frame (fun z => z) R⟩
theorem PrX.frame {x : Str} {st : Stmt} {ps : List Str} {k : Nat} {sp : Sp} (G : PrX P w K mg base x st ps k sp) : Pr P w K mg base x st ps k (spFr sp) := by
  obtain ⟨f, fd, hm, F, hb, R⟩ := G
  exact ⟨f, fd, hm, F, hb, FnOk.frame noneX R⟩
end
end Eyes

set_option Elab.async false
set_option linter.all false
set_option maxRecDepth 100000
set_option maxHeartbeats 4000000
/-! Rules of my own: operators, str() and f-strings of own instances; list(d.values()). -/
namespace Eyes
open PySem PySem.Spec PyProof.Rows L2
section
variable {X : Cx} {CX : CXT} {k : Nat} {f : Addr} {fd : FuncData} {ps : List Str} {sp : Sp} {E : XK}
end
def rOwnB (C : Addr) (sp : Sp) : R2 := fun x y H Q => ∃ a b dx dy fs gs, x = .ref a ∧ y = .ref b ∧ H a = some (.ins C dx fs) ∧ H b = some (.ins C dy gs) ∧ sp [.ref a, .ref b] H Q (fun _ _ _ => False)
def rOwnStr (C : Addr) (sp : Sp) : List V → Hp → VK → Prop := fun xs H Q => ∃ a dx fs, xs = [.ref a] ∧ H a = some (.ins C dx fs) ∧ sp [.ref a] H (fun v H' => ∃ z, v = .str z ∧ Q v H') (fun _ _ _ => False)
section
variable {X : Cx} {C : Addr} {j k : Nat} {ps : List Str} {sp : Sp} {nm : Str}
end
section
variable {X : Cx} {C : Addr} {j k : Nat} {ps : List Str} {sp : Sp} {m : Str} {o e : Expr} {es : List Expr} {apos pos : Pos} {ta : TE} {t : TA}
end
def tListVals (te : TE) : TE := fun σ H Q => te σ H fun x H1 => ∃ (d : Addr) (kvs : List (Key × V)), x = .ref d ∧ H1 d = some (.dK kvs) ∧ ∀ l, H1 l = none → Q (.ref l) (upd H1 l (.lst (kvs.map (·.2))))
section
variable {X : Cx} {e : Expr} {te : TE} {p apos cpos pos : Pos}
end
theorem u65 {A : Around} {k : Nat} (hr : Room k A) : A.units + 65 < cLine := by
  have := hr.un
  omega
section
variable {X : Cx} {K : PySem.W.Frag}
theorem ix_listK (hK : X.K = K) : IxR X (rIxL K) := by
  subst hK
  exact ix_list
theorem ix_tupK (hK : X.K = K) : IxR X (rIxT K) := by
  subst hK
  exact ix_tup
theorem ix_seqK (hK : X.K = K) : IxR X (rIx K) := by
  subst hK
  exact ix_seq
end
section
variable {X : Cx} {K : PySem.W.Frag}
end
end Eyes

set_option Elab.async false
set_option linter.all false
set_option maxRecDepth 100000
set_option maxHeartbeats 4000000
namespace Eyes
open PySem PySem.Spec PyProof.Rows L2
section
variable {prog : Program} {w : World} {A : Around} {E : Value → Shared → Prop} {s : Shared} {it l : Addr} {i : Nat} {items : Array Value}
theorem nx_li_item {x : Value} {Q : Option Value → Shared → Prop} (ho : s.heap.get? it = some (GNX.itObj l i)) (hl : s.heap.IsList l items) (hx : items[i]? = some x)
    (hQ : ∀ h', h'.get? it = some (GNX.itObj l (i + 1)) → Heap.SameBut it s.heap h' → Q (some x) { s with heap := h' }) : wpAny (model prog w) A (callSpecial? (.ref it) "__next__") Q E s := by
  have hit : s.heap.IsListIter it l i := ⟨_, ho, rfl, rfl⟩
  refine wpAny_callSpecial?_slot (name := Str.ofString "__next__") hit.typeIs slot_listiter_next (wpAny_call_entry slot_listiter_next hit.typeIs entry_listiter_next ?_ (args_listiter_next _))
  exact GNX.next_item (Q := fun v s' => Q (some v) s') ho hl hx hQ
theorem nx_li_end {Q : Option Value → Shared → Prop} (hh : A.handled = none) (ho : s.heap.get? it = some (GNX.itObj l i)) (hl : s.heap.IsList l items) (hx : items[i]? = none)
    (hE : ∀ e h', StopX e h' → Heap.ExtBut it s.heap h' → E e { s with heap := h' }) : wpAny (model prog w) A (callSpecial? (.ref it) "__next__") Q E s := by
  have hit : s.heap.IsListIter it l i := ⟨_, ho, rfl, rfl⟩
  obtain ⟨ol, hol, _, nl, hdl⟩ := hl
  refine wpAny_callSpecial?_slot (name := Str.ofString "__next__") hit.typeIs slot_listiter_next (wpAny_call_entry slot_listiter_next hit.typeIs entry_listiter_next ?_ (args_listiter_next _))
  show wpAny _ _ (field (.ref it) 0 >>= _) _ _ s
  refine wpAny_bind (wpAny_field ho rfl (x := .ref l) rfl ?_)
  show wpAny _ _ (if (Value.ref l == Value.none) = true then _ else _) _ _ s
  rw [if_neg (show ¬ ((Value.ref l == Value.none) = true) from Bool.false_ne_true)]
  show wpAny _ _ (field (.ref it) 1 >>= _) _ _ s
  refine wpAny_bind (wpAny_field ho rfl (x := .int i 0) rfl ?_)
  show wpAny _ _ (seqItems? (.ref l) >>= _) _ _ s
  refine wpAny_bind (wpAny_seqItems hol hdl ?_)
  simp only [Int.toNat_natCast, hx]
  refine wpAny_bind (wpAny_rule (wpAny_bind (wpAny_setField ho rfl (by simp) ?_)))
  show wpAny _ _ (newExc (.type "StopIteration") [] >>= _) _ _ _
  refine wpAny_bind ?_
  simp only [newExc, newTuple]
  refine wpAny_bind (wpAny_newObj_type ?_ (by size_fits))
  refine wpAny_bind (m := firstArgMember _ _) (wpAny_of_eq (a := Value.none) (by first | rfl | (simp only [firstArgMember]; rfl)) ?_)
  refine wpAny_newObj_type ?_ (by size_fits)
  simp only [raiseNew]
  refine wpAny_bind (wpAny_handled ?_)
  first | rw [show A.in1.handled = none from hh] | rw [hh]
  refine wpAny_bind (wpAny_pure (wpAny_throw ?_))
  refine hE _ _ ⟨_, _, _, rfl, Heap.get?_push_size _ rfl, rfl, rfl, ?_⟩ (((Heap.SameBut.update ..).extBut.push _).push _)
  first
    | rfl
    | (rw [Array.getElem?_append_left (by decide)]; rfl)
    | kernel_rfl
end
def tYfLst (K : PySem.W.Frag) (te : TE) : TYf := fun σ H Q => te σ H fun x H1 => ∃ a xs, x = .ref a ∧ SqL K H1 a xs ∧ H1 a ≠ none ∧ Q xs H1
theorem close_li : typeLookup (.type "list_iterator") "close" = pure none := by rw [typeLookup_type, builtinLookup_eq_fast]; kernel_rfl
section
variable {X : Cx} {e : Expr} {te : TE}
theorem yf_lst (he : PE X e te) : YfE X e (tYfLst X.K te) := by
  refine ⟨fun pins s σ H Q I h => ?_⟩
  refine thn (he.run pins s σ H _ I h) fun v s1 ⟨x, H1, I1, r1, a, xs, ex, ha, hn, hq⟩ => ?_
  subst ex
  obtain rfl : v = Value.ref a := r1
  obtain ⟨its, rits, pl, hlen⟩ := I1.list ha
  refine ⟨"list", pl.isList.typeIs, by decide, wpAny_pyIter_list pl.isList ?_⟩
  have lift : ∀ b o, s1.heap.get? b = some o → (s1.heap.push { cls := .type "list_iterator", data := .fields #[.ref a, .int 0 0] }).get? b = some o := fun b o z => Heap.get?_push_of_some _ z
  have old : ∀ b o, s1.heap.get? b = some o → b ≠ s1.heap.objs.size := fun b o z => Nat.ne_of_lt (Heap.lt_size z)
  have hne : a ≠ s1.heap.objs.size := by
    obtain ⟨_, _, z, _⟩ := pl
    exact old _ _ z
  have stay : ∀ {h h' : Heap}, (∀ o, h.get? a = some o → h'.get? a = some o) → h.IsList a its.toArray → h'.IsList a its.toArray := fun z ⟨o, ho, r⟩ => ⟨o, z o ho, r⟩
  refine ⟨s1.heap.objs.size, H1, xs, fun j h => h.get? s1.heap.objs.size = some (GNX.itObj a j) ∧ h.IsList a its.toArray, rfl, I1.kept (t' := s1.toks) lift, .inr I1.sz, Nat.ne_of_gt I1.lt, fun y c hy => ?_, I1.hok.fresh (Nat.le_refl _), fun p hp => ?_,
    ⟨Heap.get?_push_size _ rfl, stay (fun o z => lift _ _ z) pl.isList⟩, ⟨⟨"list_iterator", fun j h q => ⟨_, q.1, rfl⟩, close_li, by decide⟩, fun j h h' q hk => ?_, fun A' j x s2 Q' E' hA hx q hQ => ?_, fun A' s2 Q' E' hA q hE => ?_⟩, hq⟩
  · obtain ⟨v, o, ho, _⟩ := I1.cell y c hy
    exact old c o ho
  · exact old p.1 _ (I1.pin p hp).1
  · exact ⟨hk _ _ (.inl rfl) q.1, stay (fun o z => hk _ o (.inr hn) z) q.2⟩
  · obtain ⟨u, hu, ru⟩ := rits.get hx
    exact nx_li_item q.1 q.2 (x := u) (by simpa using hu) fun h' z hs => hQ u h' s2.toks ru ⟨z, stay (fun o g => (hs.extBut a o hne g)) q.2⟩ fun b o hb eb => hs.extBut b o hb eb
  · have z : its.toArray[xs.length]? = none := by
      have e := rits.length
      have e2 : its[xs.length]? = none := List.getElem?_eq_none_iff.mpr (by omega)
      simpa using e2
    exact nx_li_end hA q.1 q.2 z fun e h' hS hk => hE e h' s2.toks hS fun b o hb eb => hk b o hb eb
end
end Eyes

set_option Elab.async false
set_option linter.all false
set_option maxRecDepth 100000
set_option maxHeartbeats 4000000
/-! Generators under any consumer that puts what comes behind a list of its own: the base is laid anew at each waking. -/
namespace Eyes
open PySem PySem.Spec PyProof.Rows L2 GenW
def headN (h0 h : Heap) : Heap := ⟨(h.objs.extract 0 h0.objs.size).mapIdx fun i o => if (h0.get? i).isSome = true then o else { cls := .none, data := .freed }, h.life⟩
def atN (h0 : Heap) (s : Shared) : Shared := { s with heap := headN h0 s.heap }
theorem headN_arr {h0 h : Heap} {b : Nat} : (headN h0 h).objs[b]? = if b < h0.objs.size then h.objs[b]?.map (fun o => if (h0.get? b).isSome = true then o else { cls := .none, data := .freed }) else none := by
  show ((h.objs.extract 0 h0.objs.size).mapIdx _)[b]? = _
  rw [Array.getElem?_mapIdx, Array.getElem?_extract]
  simp only [Nat.sub_zero, Nat.zero_add]
  by_cases l : b < h0.objs.size
  · rw [if_pos l]
    by_cases z : b < h.objs.size
    · rw [if_pos (by omega)]
    · rw [if_neg (by omega), Array.getElem?_eq_none (by omega)]
  · rw [if_neg l, if_neg (by omega)]
    rfl
theorem headN_lt {h0 h : Heap} {b : Nat} (l : ∃ o, h0.get? b = some o) : (headN h0 h).get? b = h.get? b := by
  obtain ⟨o, e⟩ := l
  have lt : b < h0.objs.size := Heap.lt_size e
  unfold Heap.get?
  rw [headN_arr, if_pos lt, e]
  cases h.objs[b]? <;> rfl
theorem headN_of {h0 h : Heap} {b : Nat} {o : Obj} (e : (headN h0 h).get? b = some o) : (∃ o', h0.get? b = some o') ∧ h.get? b = some o := by
  by_cases z : ∃ o', h0.get? b = some o'
  · exact ⟨z, headN_lt z ▸ e⟩
  · exfalso
    have z2 : h0.get? b = none := by
      cases q : h0.get? b with
      | none => rfl
      | some o' => exact (z ⟨o', q⟩).elim
    unfold Heap.get? at e
    rw [headN_arr] at e
    by_cases l : b < h0.objs.size
    · rw [if_pos l, z2] at e
      cases q : h.objs[b]? with
      | none => rw [q] at e; cases e
      | some o' => rw [q] at e; cases e
    · rw [if_neg l] at e
      cases e
theorem headN_size {h0 h : Heap} (l : h0.objs.size ≤ h.objs.size) : (headN h0 h).objs.size = h0.objs.size := by
  show ((h.objs.extract 0 h0.objs.size).mapIdx _).size = _
  rw [Array.size_mapIdx, Array.size_extract]
  omega
theorem ff_of {base h h' : Heap} : ∀ {l : List Env}, (∀ b ∈ frs l, ∀ o, h.get? b = some o → (∀ vs, o.data ≠ .fields vs) → ∃ o', h'.get? b = some o' ∧ ∀ vs, o'.data ≠ .fields vs) → h.FunFrames base l → h'.FunFrames base l
  | [], _, _ => trivial
  | env :: rest, k, ⟨h1, ⟨L, o, hf, hn, ho, hd⟩, h2⟩ => by
    obtain ⟨o', e', d'⟩ := k L (by unfold frs; rw [List.filterMap_cons, hf]; exact List.mem_cons_self) o ho hd
    refine ⟨h1, ⟨L, o', hf, hn, e', d'⟩, ff_of (fun b hb => k b ?_) h2⟩
    unfold frs at hb ⊢
    rw [List.filterMap_cons, hf]
    exact List.mem_cons_of_mem _ hb

def gyx (P : Program) (w : World) (K : PySem.W.Frag) (mg : Str → Option Value) (base : Heap) (N : List Str) (qual : Str) (scope : Scope) (f : Addr) (cd : Value) (A : Around) (outer : List Env) (n0 : Nat) (E : XK) (pn : List (Addr × Obj)) (b : Shared) (Hb : Hp) : Cx where
  prog := P
  w := w
  K := K
  mg := mg
  base := base
  A := A.deeper (envOfC qual scope n0 f cd)
  N := N
  s_0 := b
  H_0 := Hb
  env := envOfC qual scope n0 f cd
  outer := outer
  stack := envOfC qual scope n0 f cd :: outer
  ex := []
  fn := fun _ => true
  calm := true
  pn := pn
  xe := fun e s' => wpAny (model P w) (A.deeper (envOfC qual scope n0 f cd)) (leaving (envOfC qual scope n0 f cd) e) (fun _ s'' => L2.CX P w outer Hb b E e s'' ∧ ∀ p ∈ pn, s''.heap.get? p.1 = some p.2) (fun _ _ => False) s'
section
variable {P : Program} {w : World} {K : PySem.W.Frag} {mg : Str → Option Value} {base : Heap} {N : List Str} {qual : Str} {scope : Scope} {f : Addr} {cd : Value} {A : Around} {outer : List Env} {n0 : Nat} {E : XK} {pn pn' : List (Addr × Obj)} {b : Shared} {Hb : Hp}
theorem takes_gyx : Takes (gyx P w K mg base N qual scope f cd A outer n0 E pn b Hb) (fun cls d _ G => E cls d G) := fun u s' x =>
  XE.leaveG (W := fun cls d _ G => E cls d G) (E := E) rfl rfl rfl (fun _ _ _ _ z => z) x
structure Far (base : Heap) (outer : List Env) (h0 : Heap) (S L : Addr) : Prop where
  s0 : ∃ o, h0.get? S = some o
  l0 : ∃ o, h0.get? L = some o
  sf : S ∉ frs outer
  bs : base.get? S = none
  bl : base.get? L = none
  bz : ∀ c o, base.get? c = some o → ∃ o', h0.get? c = some o'
  bq : base.objs.size ≤ h0.objs.size
  fr : ∀ c ∈ frs outer, ∃ o, h0.get? c = some o
theorem Far.s1 {base h0 : Heap} {outer : List Env} {S L : Addr} (F : Far base outer h0 S L) : S < h0.objs.size := Heap.lt_size F.s0.choose_spec
theorem Far.l1 {base h0 : Heap} {outer : List Env} {S L : Addr} (F : Far base outer h0 S L) : L < h0.objs.size := Heap.lt_size F.l0.choose_spec
theorem rebase {h0 : Heap} {S L : Addr} {ip ip' : List (Addr × Obj)} {σ : L2.St} {H : Hp} {s s' : Shared} (hz : h0.objs.size = n0) (F : Far base outer h0 S L) (hb : b.heap.objs.size = n0) (I : Inv (gyx P w K mg base N qual scope f cd A outer n0 E pn b Hb) ip σ H s)
    (kp : ∀ c o, c ≠ S → c ≠ L → s.heap.get? c = some o → s'.heap.get? c = some o) (hS : H S = none) (hL : H L = none) (bare : AllBare s'.gens) (frm : ∃ o, s'.heap.get? L = some o ∧ ∀ vs, o.data ≠ .fields vs) (sz : n0 ≤ s'.heap.objs.size)
    (hp : ∀ p ∈ pn' ++ ip', s'.heap.get? p.1 = some p.2 ∧ H p.1 = none ∧ p.1 ≠ n0 ∧ p.1 ∉ frs outer ∧ ∀ v, p.2.data ≠ .cell v) :
    Inv (gyx P w K mg base N qual scope f cd A outer n0 E pn' (atN h0 s') H) ip' σ H s' := by
  have fs1 : S < n0 := hz ▸ F.s1
  have fl1 : L < n0 := hz ▸ F.l1
  have e0 := I.env0
  have young : ∀ c, n0 ≤ c → c ≠ S ∧ c ≠ L := fun c hc => ⟨fun z => Nat.lt_irrefl _ (Nat.lt_of_lt_of_le fs1 (z ▸ hc)), fun z => Nat.lt_irrefl _ (Nat.lt_of_lt_of_le fl1 (z ▸ hc))⟩
  have cabs : ∀ x c, (envOfC qual scope n0 f cd).cells.lookup x = some c → n0 ≤ c := fun x c e => by
    have z := I.ok.cab x c rfl e
    have z2 : b.heap.objs.size ≤ c := z
    omega
  have hfs : ∀ c ∈ frs outer, H c = none := fun c hc => e0.frf c (by
    unfold frs at hc ⊢
    show c ∈ List.filterMap _ (envOfC qual scope n0 f cd :: outer)
    rw [List.filterMap_cons]
    exact List.mem_cons_of_mem _ hc)
  have bsS : ∀ c o, base.get? c = some o → c ≠ S ∧ c ≠ L := fun c o e => ⟨fun z => (by rw [z, F.bs] at e; cases e), fun z => (by rw [z, F.bl] at e; cases e)⟩
  have szb : (headN h0 s'.heap).objs.size = n0 := (headN_size (by rw [hz]; exact sz)).trans hz
  obtain ⟨m, hn, hl⟩ := I.loc
  obtain ⟨yS, yL⟩ := young n0 (Nat.le_refl _)
  have cellK : ∀ x c v, (envOfC qual scope n0 f cd).cells.lookup x = some c → s.heap.IsCell c v → s'.heap.IsCell c v := fun x c v e ⟨o, ho, hd⟩ => by
    obtain ⟨y1, y2⟩ := young c (cabs x c e)
    exact ⟨o, kp c o y1 y2 ho, hd⟩
  refine ⟨⟨I.ok.mod, I.ok.kind, I.ok.glob, I.ok.blt, ?_, I.ok.inj, I.ok.has, fun x c _ e => ?_, I.ok.hd, I.ok.frames, I.ok.stk, fun c hc => (by simp [gyx] at hc), fun c o e => ?_, ?_, fun c o e hc => (by simp [gyx] at hc), fun c hc => (by simp [gyx] at hc), ?_, hfs⟩,
    rfl, bare, Un.kept fun c u q => (headN_of q).2, ⟨m, hn.at' fun o e => kp _ o yS yL e, fun i x v e1 e2 e3 => ?_⟩, fun x c e => ?_, I.free, I.freeC, hp, fun c o q => ?_, I.len⟩
  · show (headN h0 s'.heap).objs.size ≤ n0
    rw [szb]
    exact Nat.le_refl _
  · show (headN h0 s'.heap).objs.size ≤ c
    rw [szb]
    exact cabs x c e
  · obtain ⟨y1, y2⟩ := bsS c o e
    exact ⟨(headN_lt (F.bz c o e)).trans (kp c o y1 y2 (I.bs c o e).1), (I.bs c o e).2⟩
  · show base.objs.size ≤ (headN h0 s'.heap).objs.size
    rw [szb, ← hz]
    exact F.bq
  · have e1 : s.heap.FunFrames base (envOfC qual scope n0 f cd :: outer) := e0.funs
    obtain ⟨_, _, e2⟩ := e1
    show (headN h0 s'.heap).FunFrames base outer
    refine ff_of (fun c hc o ho hd => ?_) e2
    rw [headN_lt (F.fr c hc)]
    by_cases z : c = L
    · subst z; exact frm
    · exact ⟨o, kp c o (fun y => F.sf (y ▸ hc)) z ho, hd⟩
  · obtain ⟨u, r, lk⟩ := hl i x v e1 e2 e3
    refine ⟨u, r, ?_⟩
    rcases lk with z | ⟨z, c, hc, hcell⟩
    · exact .inl z
    · exact .inr ⟨z, c, hc, cellK x c _ hc hcell⟩
  · obtain ⟨v, z⟩ := I.cell x c e
    exact ⟨v, cellK x c v e z⟩
  · refine (I.hok c o q).stay (fun d u hd r => kp d u (fun z => ?_) (fun z => ?_) r) (fun _ r => r) fun _ _ r => r
    · subst z
      rcases hd with rfl | hd
      · rw [hS] at q; cases q
      · rw [hS] at hd; cases hd
    · subst z
      rcases hd with rfl | hd
      · rw [hL] at q; cases q
      · rw [hL] at hd; cases hd
end
end Eyes

set_option Elab.async false
set_option linter.all false
set_option maxRecDepth 100000
set_option maxHeartbeats 4000000
/-! The statements of a generator's body, under any such consumer. -/
namespace Eyes
open PySem PySem.Spec PyProof.Rows L2 GenW
structure Slp (S L : Addr) (v : Value) (s s' : Shared) : Prop where
  bare : AllBare s'.gens
  os : s'.os = s.os
  keep : ∀ b o, b ≠ S → b ≠ L → s.heap.get? b = some o → s'.heap.get? b = some o
  own : ∀ acc c, s.heap.get? S = some (lstObj acc c) → ∃ c', s'.heap.get? S = some (lstObj (acc.push v) c')
  frm : ∃ o, s'.heap.get? L = some o ∧ ∀ vs, o.data ≠ .fields vs
structure GP where
  P : Program
  w : World
  K : PySem.W.Frag
  mg : Str → Option Value
  base : Heap
  N : List Str
  qual : Str
  scope : Scope
  f : Addr
  cd : Value
  A : Around
  outer : List Env
  n0 : Nat
  E : XK
  pn : List (Addr × Obj)
  S : Addr
  L : Addr
  yl : List V → V → Hp → Prop
  Hc : Hp
  sc : Shared
abbrev GP.cx (Φ : GP) (b : Shared) (Hb : Hp) : Cx := gyx Φ.P Φ.w Φ.K Φ.mg Φ.base Φ.N Φ.qual Φ.scope Φ.f Φ.cd Φ.A Φ.outer Φ.n0 Φ.E Φ.pn b Hb
abbrev GP.env (Φ : GP) : Env := envOfC Φ.qual Φ.scope Φ.n0 Φ.f Φ.cd
structure Wk (S : Addr) (n0 : Nat) (Hc : Hp) (sc : Shared) (yl : List V → V → Hp → Prop) (s₀ : Shared) (ys : List V) (Hb : Hp) : Prop where
  lst : ∃ acc c, Vals ys acc.toList ∧ s₀.heap.get? S = some (lstObj acc c)
  old : ∀ b o, sc.heap.get? b = some o → Hc b = none → Hb b = none
  thr : ∀ b o, sc.heap.get? b = some o → ∃ o', s₀.heap.get? b = some o'
  first : (Hb = Hc ∧ ∀ b o, sc.heap.get? b = some o → s₀.heap.get? b = some o) ∨ ∃ zs x H, yl zs x H
  sz : n0 ≤ s₀.heap.objs.size
  os : s₀.os = sc.os
abbrev GP.Wk (Φ : GP) : Shared → List V → Hp → Prop := Eyes.Wk Φ.S Φ.n0 Φ.Hc Φ.sc Φ.yl
structure GF (Φ : GP) : Prop where
  far : Far Φ.base Φ.outer Φ.sc.heap Φ.S Φ.L
  sz : Φ.sc.heap.objs.size = Φ.n0
  hs : Φ.Hc Φ.S = none
  hl : Φ.Hc Φ.L = none
  pn : ∀ p ∈ Φ.pn, Φ.n0 ≤ p.1
def GJ (Φ : GP) (s₀ : Shared) (ip : List (Addr × Obj)) (ys : List V) (σ : L2.St) (H : Hp) (s : Shared) : Prop :=
  ∃ Hb, Φ.Wk s₀ ys Hb ∧ Inv (Φ.cx (atN Φ.sc.heap s₀) Hb) ip σ H s
theorem GJ.far_none {Φ : GP} {s₀ s : Shared} {ys : List V} {Hb H : Hp} {ip : List (Addr × Obj)} {σ : L2.St} (F : GF Φ) (W : Φ.Wk s₀ ys Hb) (I : Inv (Φ.cx (atN Φ.sc.heap s₀) Hb) ip σ H s) : ∀ b o, Φ.sc.heap.get? b = some o → Φ.Hc b = none → H b = none := fun b o e n => by
  obtain ⟨o', e'⟩ := W.thr b o e
  exact I.base.free b o' ((headN_lt ⟨o, e⟩).trans e') (W.old b o e n) (fun z => by cases z)
theorem GJ.woken {Φ : GP} {s₀ s s' : Shared} {ip : List (Addr × Obj)} {ys : List V} {x : V} {v : Value} {σ : L2.St} {H : Hp} (F : GF Φ) (hip : ∀ p ∈ ip, Φ.n0 ≤ p.1) (h : GJ Φ s₀ ip ys σ H s) (rv : RelV x v) (hy : Φ.yl ys x H) (z : Slp Φ.S Φ.L v s s') : GJ Φ s' ip (ys ++ [x]) σ H s' := by
  obtain ⟨Hb, W, I⟩ := h
  obtain ⟨acc, c, ra, eS0⟩ := W.lst
  obtain ⟨oS, eS⟩ := F.far.s0
  obtain ⟨oL, eL⟩ := F.far.l0
  have nn := GJ.far_none F W I
  have hS := nn _ _ eS F.hs
  have hL := nn _ _ eL F.hl
  have nx : ∀ b, b ∉ ([] : List Addr) := fun b q => by cases q
  have eS1 : s.heap.get? Φ.S = some (lstObj acc c) := I.base.keep Φ.S _ ((headN_lt F.far.s0).trans eS0) (W.old _ _ eS F.hs) F.far.sf (nx _)
  obtain ⟨c', eS'⟩ := z.own acc c eS1
  have szs : Φ.n0 ≤ s.heap.objs.size := by
    have q := I.sz
    have q2 : (headN Φ.sc.heap s₀.heap).objs.size ≤ s.heap.objs.size := q
    rwa [headN_size (by rw [F.sz]; exact W.sz), F.sz] at q2
  have there : ∀ b o, Φ.sc.heap.get? b = some o → ∃ o', s'.heap.get? b = some o' := fun b o e => by
    obtain ⟨o1, e1⟩ := W.thr b o e
    obtain ⟨o2, e2⟩ := I.base.there b o1 ((headN_lt ⟨o, e⟩).trans e1) (nx _)
    by_cases q1 : b = Φ.S
    · subst q1; exact ⟨_, eS'⟩
    · by_cases q2 : b = Φ.L
      · subst q2; exact ⟨_, z.frm.choose_spec.1⟩
      · exact ⟨_, z.keep b o2 q1 q2 e2⟩
  have fs1 : Φ.S < Φ.n0 := F.sz ▸ F.far.s1
  have fl1 : Φ.L < Φ.n0 := F.sz ▸ F.far.l1
  have sz' : Φ.n0 ≤ s'.heap.objs.size := by
    have l1 : Φ.n0 < s.heap.objs.size := I.lt
    have l2 := I.loc
    obtain ⟨m, hn, _⟩ := l2
    obtain ⟨o, es, ep, ho, _⟩ := hn
    have e := z.keep Φ.n0 o (fun q => Nat.lt_irrefl Φ.n0 (by have := fs1; rwa [← q] at this)) (fun q => Nat.lt_irrefl Φ.n0 (by have := fl1; rwa [← q] at this)) ho
    exact Nat.le_of_lt (Heap.lt_size e)
  refine ⟨H, ⟨⟨acc.push v, c', ?_, eS'⟩, nn, there, .inr ⟨ys, x, H, hy⟩, sz', z.os.trans (I.os.trans W.os)⟩, rebase F.sz F.far ((headN_size (by rw [F.sz]; exact W.sz)).trans F.sz) I z.keep hS hL z.bare z.frm sz' fun p hp => ?_⟩
  · rw [Array.toList_push]
    exact ra.append (.cons rv .nil)
  · obtain ⟨p1, p2, p3, p4, p5⟩ := I.pin p hp
    have ge : Φ.n0 ≤ p.1 := (List.mem_append.mp hp).elim (F.pn p) (hip p)
    refine ⟨z.keep p.1 _ (fun q => ?_) (fun q => ?_) p1, p2, p3, p4, p5⟩
    · exact Nat.lt_irrefl _ (Nat.lt_of_lt_of_le fs1 (q ▸ ge))
    · exact Nat.lt_irrefl _ (Nat.lt_of_lt_of_le fl1 (q ▸ ge))

def YY (Φ : GP) : Protocol := fun n s₀ v s kap =>
  ∃ ys x ip σ H, n + 1 + ys.length = sizeLine ∧ RelV x v ∧ Φ.yl ys x H ∧ GJ Φ s₀ ip ys σ H s ∧ ∀ s' v', RelV x v' → Slp Φ.S Φ.L v' s s' → kap (.send .none) s'
def YP (Φ : GP) (s₀ : Shared) (ip : List (Addr × Obj)) (D : GEnds) (ys : List V) (fl : Flow) (s : Shared) : Prop :=
  match fl with
  | .next => ∃ σ H, GJ Φ s₀ ip ys σ H s ∧ D.nx ys σ H
  | .brk => ∃ σ H, GJ Φ s₀ ip ys σ H s ∧ D.bk ys σ H
  | .cont => ∃ σ H, GJ Φ s₀ ip ys σ H s ∧ D.ct ys σ H
  | .ret u => ∃ v σ H, GJ Φ s₀ ip ys σ H s ∧ RelV v u ∧ D.rt ys v H
structure YC (Φ : GP) (ip : List (Addr × Obj)) (c : Code) (fs : List Frame) (gd : Bool → Bool) : Prop where
  ip : ∀ p ∈ ip, Φ.n0 ≤ p.1
  over : Φ.A.over c fs = Φ.A.deeper Φ.env
  split : splitAtGen fs = none
  guard : fs.any Frame.guarded = false
  gd : gd false = false
structure YK (Φ : GP) (ip : List (Addr × Obj)) (R : GenEnd) (c : Code) (fs : List Frame) (C : Flow → Sem PySem.Fin) (J : Value → Sem PySem.Fin) (D : GEnds) : Prop where
  ok : ∀ (n : Nat) (ys : List V) (s₀ s : Shared) (fl : Flow), n + ys.length = sizeLine → YP Φ s₀ ip D ys fl s → Seg (model Φ.P Φ.w) Φ.A R (YY Φ) n s₀ c (C fl) fs s
  exc : ∀ (n : Nat) (s₀ : Shared) (ys : List V) (Hb : Hp) (e : Value) (s : Shared), Φ.Wk s₀ ys Hb → (Φ.cx (atN Φ.sc.heap s₀) Hb).xe e s → Seg (model Φ.P Φ.w) Φ.A R (YY Φ) n s₀ c (J e) fs s
structure YS (Φ : GP) (st : Stmt) (t : TGn) : Prop where
  run : ∀ (ip : List (Addr × Obj)) (R : GenEnd) (n : Nat) (ys : List V) (s₀ : Shared) (c : Code) (fs : List Frame) (C : Flow → Sem PySem.Fin) (J : Value → Sem PySem.Fin) (gd : Bool → Bool) (lv : List Value → List Value) (s : Shared) (σ : L2.St) (H : Hp) (D : GEnds),
    YC Φ ip c fs gd → n + ys.length = sizeLine → YK Φ ip R c fs C J D → GJ Φ s₀ ip ys σ H s → t D ys σ H → Seg (model Φ.P Φ.w) Φ.A R (YY Φ) n s₀ c ((exec st Φ.env).wrap C J gd lv) fs s
structure YSs (Φ : GP) (sts : List Stmt) (t : TGn) : Prop where
  run : ∀ (ip : List (Addr × Obj)) (R : GenEnd) (n : Nat) (ys : List V) (s₀ : Shared) (c : Code) (fs : List Frame) (C : Flow → Sem PySem.Fin) (J : Value → Sem PySem.Fin) (gd : Bool → Bool) (lv : List Value → List Value) (s : Shared) (σ : L2.St) (H : Hp) (D : GEnds),
    YC Φ ip c fs gd → n + ys.length = sizeLine → YK Φ ip R c fs C J D → GJ Φ s₀ ip ys σ H s → t D ys σ H → Seg (model Φ.P Φ.w) Φ.A R (YY Φ) n s₀ c ((execs sts Φ.env).wrap C J gd lv) fs s
section
variable {Φ : GP} {st : Stmt} {rest : List Stmt}
theorem yp_of {s₀ s : Shared} {ys : List V} {Hb : Hp} {ip : List (Addr × Obj)} {D : GEnds} {fl : Flow} (W : Φ.Wk s₀ ys Hb) (h : SP (Φ.cx (atN Φ.sc.heap s₀) Hb) ip (D.at ys) fl s) : YP Φ s₀ ip D ys fl s := by
  cases fl with
  | next => obtain ⟨σ, H, I, q⟩ := h; exact ⟨σ, H, ⟨Hb, W, I⟩, q⟩
  | brk => obtain ⟨σ, H, I, q⟩ := h; exact ⟨σ, H, ⟨Hb, W, I⟩, q⟩
  | cont => obtain ⟨σ, H, I, q⟩ := h; exact ⟨σ, H, ⟨Hb, W, I⟩, q⟩
  | ret u => obtain ⟨v, σ, H, I, r, q⟩ := h; exact ⟨v, σ, H, ⟨Hb, W, I⟩, r, q⟩
theorem ys_ps {t : TS} (h : ∀ b Hb, PS (Φ.cx b Hb) st t) : YS Φ st (tPlain t) := by
  refine ⟨fun ip R n ys s₀ c fs C J gd lv s σ H D g hn k hJ ht => ?_⟩
  obtain ⟨Hb, W, I⟩ := hJ
  refine seg_wrap (g.over.symm ▸ ?_)
  exact wpAny_mono ((h _ _).run _ s σ H (D.at ys) I ht) (fun fl s' q => k.ok n ys s₀ s' fl hn (yp_of W q)) fun e s' q => k.exc n s₀ ys Hb e s' W q
theorem yss_nil : YSs Φ [] tG0 := by
  refine ⟨fun ip R n ys s₀ c fs C J gd lv s σ H D g hn k hJ ht => seg_execs_nil (k.ok n ys s₀ s .next hn ⟨σ, H, hJ, ht⟩)⟩
theorem yss_cons {t u : TGn} (a : YS Φ st t) (b : YSs Φ rest u) : YSs Φ (st :: rest) (tGThen t u) := by
  refine ⟨fun ip R n ys s₀ c fs C J gd lv s σ H D g hn k hJ ht => seg_execs_cons ?_⟩
  refine a.run ip R n ys s₀ c fs _ J gd lv s σ H { D with nx := fun zs τ G => u D zs τ G } g hn ⟨fun n2 zs s2 s3 fl h2 q => ?_, k.exc⟩ hJ ht
  cases fl with
  | next =>
    obtain ⟨τ, G, j, q⟩ := q
    exact b.run ip R n2 zs s2 c fs C J gd lv s3 τ G D g h2 k j q
  | brk => exact k.ok n2 zs s2 s3 .brk h2 q
  | cont => exact k.ok n2 zs s2 s3 .cont h2 q
  | ret u => exact k.ok n2 zs s2 s3 (.ret u) h2 q
def tYld (yl : List V → V → Hp → Prop) (te : TE) : TGn := fun D ys σ H => ys.length < sizeLine ∧ te σ H fun x H1 => yl ys x H1 ∧ D.nx (ys ++ [x]) σ H1
end
end Eyes

set_option Elab.async false
set_option linter.all false
set_option maxRecDepth 100000
set_option maxHeartbeats 4000000
/-! yield from a list, under any such consumer. -/
namespace Eyes
open PySem PySem.Spec PyProof.Rows L2 GenW
def tYfr (yl : List V → V → Hp → Prop) (te : TE) : TGn := fun D ys σ H => te σ H fun x H1 => ∃ a xs, x = .ref a ∧ H1 a = some (.lst xs) ∧ ys.length + xs.length ≤ sizeLine ∧ (∀ i y, xs[i]? = some y → yl (ys ++ xs.take i) y H1) ∧ D.nx (ys ++ xs) σ H1
section
variable {Φ : GP}
theorem seg_yl {R : GenEnd} {fs : List Frame} {it a : Addr} {ip : List (Addr × Obj)} {xs ys : List V} {its : List Value} {σ : L2.St} {H : Hp} (F : GF Φ) (hip : ∀ p ∈ ip, Φ.n0 ≤ p.1) (hne : ∀ p ∈ Φ.pn ++ ip, p.1 ≠ it) (ge : Φ.n0 ≤ it) (hL : it ≠ Φ.n0)
    (hcell : ∀ x c, Φ.env.cells.lookup x = some c → c ≠ it) (hH : H it = none) (ha : H a = some (.lst xs)) (hits : Vals xs its) (hai : a ≠ it)
    (ho : (Φ.A.over (.builtin "proto.yield_from" ⟨[.ref it, .bool false, .none], []⟩) fs).handled = none) (hsp : splitAtGen fs = none) (hgd : fs.any Frame.guarded = false) (hle : ys.length + xs.length ≤ sizeLine) (hyl : ∀ i y, xs[i]? = some y → Φ.yl (ys ++ xs.take i) y H)
    (hend : ∀ (n : Nat) (s₀ s : Shared), n + (ys ++ xs).length = sizeLine → GJ Φ s₀ ip (ys ++ xs) σ H s → Seg (model Φ.P Φ.w) Φ.A R (YY Φ) n s₀ (.builtin "proto.yield_from" ⟨[.ref it, .bool false, .none], []⟩) (.pure (.done (.ret .none))) fs s) :
    ∀ (r j n : Nat) (s₀ s : Shared), j + r = xs.length → n + (ys.length + j) = sizeLine → GJ Φ s₀ ip (ys ++ xs.take j) σ H s → s.heap.get? it = some (GNX.itObj a j) → s.heap.IsList a its.toArray →
      Seg (model Φ.P Φ.w) Φ.A R (YY Φ) n s₀ (.builtin "proto.yield_from" ⟨[.ref it, .bool false, .none], []⟩) ((model Φ.P Φ.w).den (.builtin "proto.yield_from" ⟨[.ref it, .bool false, .none], []⟩)) fs s := by
  have den : (model Φ.P Φ.w).den (.builtin "proto.yield_from" ⟨[.ref it, .bool false, .none], []⟩) = Builtin.«proto.yield_from» ⟨[.ref it, .bool false, .none], []⟩ := den_yf (X := Φ.cx Φ.sc (fun _ => none))
  have obj : (GNX.itObj a 0).cls = .type "list_iterator" := rfl
  have turned : ∀ {zs : List V} {s₀ s : Shared} {h' : Heap} {tk : Nat}, GJ Φ s₀ ip zs σ H s → (∀ b o, b ≠ it → s.heap.get? b = some o → h'.get? b = some o) → GJ Φ s₀ ip zs σ H { s with heap := h', toks := tk } := fun {zs s₀ s h' tk} ⟨Hb, W, I⟩ hk =>
    ⟨Hb, W, I.turned (it := it) hk hH hL (.inr (by show (headN Φ.sc.heap s₀.heap).objs.size ≤ it; rw [headN_size (by rw [F.sz]; exact W.sz), F.sz]; exact ge)) hcell hne⟩
  have far : it ≠ Φ.S ∧ it ≠ Φ.L := ⟨fun q => Nat.lt_irrefl _ (Nat.lt_of_lt_of_le (F.sz ▸ F.far.s1 : Φ.S < Φ.n0) (q ▸ ge)), fun q => Nat.lt_irrefl _ (Nat.lt_of_lt_of_le (F.sz ▸ F.far.l1 : Φ.L < Φ.n0) (q ▸ ge))⟩
  have ln := hits.length
  have stay : ∀ {h h' : Heap}, (∀ o, h.get? a = some o → h'.get? a = some o) → h.IsList a its.toArray → h'.IsList a its.toArray := fun z ⟨o, e, r⟩ => ⟨o, z o e, r⟩
  intro r
  induction r with
  | zero =>
    intro j n s₀ s hj hn hJ h1 h2
    obtain rfl : j = xs.length := by omega
    rw [List.take_length] at hJ
    have out : its.toArray[xs.length]? = none := by
      have e2 : its[xs.length]? = none := List.getElem?_eq_none_iff.mpr (by omega)
      simpa using e2
    rw [den]
    unfold Builtin.«proto.yield_from»
    try dsimp only
    refine seg_bind (m := pure _) (wpAny_pure ?_); try dsimp only
    refine seg_bind (wpAny_attempt (wpAny_holding ?_))
    rw [if_neg Bool.false_ne_true, if_pos (show (Value.none == Value.none) = true from rfl)]
    refine wpAny_bind (wpAny_rule (wpAny_bind (nx_li_end ho h1 h2 out fun e h' hS hk => ?_)))
    obtain ⟨a2, o, vs, rfl, hoa, hcls, hdat, h5⟩ := hS
    try dsimp only
    refine seg_bind (wpAny_endsTurn hoa hcls ?_); try dsimp only
    rw [if_pos rfl]
    first
      | refine seg_bind (m := rule _) (wpAny_rule ?_)
      | (rw [if_neg Bool.false_ne_true]; refine seg_bind (m := rule _) (wpAny_rule ?_))
      | (rw [if_neg Bool.false_ne_true]; refine seg_bind (m := pure _) (wpAny_pure ?_); refine seg_bind (m := rule _) (wpAny_rule ?_))
    refine seg_bind (wpAny_field hoa hdat h5 ?_)
    exact hend n s₀ _ (by rw [List.length_append]; exact hn) (turned (tk := s.toks) hJ fun b o hb eb => hk b o hb eb)
  | succ r ih =>
    intro j n s₀ s hj hn hJ h1 h2
    have lt : j < xs.length := by omega
    obtain ⟨x, hx⟩ : ∃ x, xs[j]? = some x := ⟨xs[j], List.getElem?_eq_getElem lt⟩
    obtain ⟨m, rfl⟩ : ∃ m, n = m + 1 := ⟨n - 1, by omega⟩
    have tl : (xs.take j).length = j := by rw [List.length_take]; omega
    obtain ⟨v, hv, rv⟩ := hits.get hx
    rw [den]
    unfold Builtin.«proto.yield_from»
    try dsimp only
    refine seg_bind (m := pure _) (wpAny_pure ?_); try dsimp only
    refine seg_bind (wpAny_attempt (wpAny_holding ?_))
    rw [if_neg Bool.false_ne_true, if_pos (show (Value.none == Value.none) = true from rfl)]
    refine wpAny_bind (wpAny_rule (wpAny_bind (nx_li_item h1 h2 (x := v) (by simpa using hv) fun h' z1 hs => ?_)))
    have hJ1 := turned (tk := s.toks) hJ fun b o hb eb => hs.extBut b o hb eb
    have z2 : h'.IsList a its.toArray := stay (fun o e => hs.extBut a o hai e) h2
    refine wpAny_pure ?_
    try dsimp only
    refine seg_bind (wpAny_typeOf (T := "list_iterator") ⟨_, z1, rfl⟩ ?_); try dsimp only
    first
      | (refine seg_bind (wpAny_of_eq close_li ?_); refine seg_bind (m := pure _) (wpAny_pure ?_))
      | refine seg_bind (wpAny_bind (wpAny_of_eq close_li (wpAny_pure ?_)))
      | refine seg_bind (wpAny_of_eq close_li ?_)
    try dsimp only
    refine seg_bind (wpAny_sleptOver (T := "list_iterator") z1 rfl (by decide) ?_)
    refine seg_yield hsp rfl hgd ⟨ys ++ xs.take j, x, ip, σ, H, by rw [List.length_append, tl]; exact hn, rv, hyl j x hx, hJ1, fun s2 v2 rv2 z => ?_⟩
    have hJ2 := hJ1.woken F hip rv2 (hyl j x hx) z
    have y1 : s2.heap.get? it = some (GNX.itObj a (j + 1)) := z.keep it _ far.1 far.2 z1
    obtain ⟨Hb, W, I⟩ := hJ1
    obtain ⟨oS, eS⟩ := F.far.s0
    obtain ⟨oL, eL⟩ := F.far.l0
    have nn := GJ.far_none F W I
    have aS : a ≠ Φ.S := fun q => by have := nn _ _ eS F.hs; rw [← q, ha] at this; cases this
    have aL : a ≠ Φ.L := fun q => by have := nn _ _ eL F.hl; rw [← q, ha] at this; cases this
    have y2 : s2.heap.IsList a its.toArray := stay (fun o e => z.keep a o aS aL e) z2
    have tk1 : ys ++ xs.take j ++ [x] = ys ++ xs.take (j + 1) := by
      rw [List.append_assoc, List.take_add_one, hx]; rfl
    rw [tk1] at hJ2
    show Seg _ _ _ _ m s2 _ (Builtin.Generator.sleptOver (.ref it) false >>= fun _ => _) fs s2
    refine seg_bind (wpAny_sleptOver (T := "list_iterator") y1 rfl (by decide) ?_); try dsimp only
    refine seg_bind (m := pure _) (wpAny_pure ?_)
    exact seg_again (plainId_quiet plain_yf _) (ih (j + 1) m s2 s2 (by omega) (by omega) hJ2 y1 y2)

theorem ys_from {e : Expr} {yp pos : Pos} {te : TE} (F : GF Φ) (he : ∀ b Hb, PE (Φ.cx b Hb) e te) (hh : Φ.A.handled = none) (hi : interactive Φ.env = false := by rfl) : YS Φ (.Expr (.YieldFrom e yp) pos) (tYfr Φ.yl te) := by
  refine ⟨fun ip R n ys s₀ c fs C J gd lv s σ H D g hn k hJ ht => ?_⟩
  obtain ⟨Hb, W, I⟩ := hJ
  rw [exec_Expr Φ.env _ pos hi rfl]
  show Seg _ _ _ _ n s₀ c (.at pos fun _ => ((eval e Φ.env >>= fun v => (standAt yp >>= fun _ => yieldFrom Φ.env v)) >>= fun x => dropValue (.YieldFrom e yp) pos x).wrap C J gd lv) fs s
  refine seg_at (segw_bind2 (g.over.symm ▸ ?_))
  refine wpAny_mono ((he _ _).run _ s σ H _ I ht) (fun v s1 ⟨x, H1, I1, rv, a, xs, ex, ha, hle, hyl, hq⟩ => ?_) fun e s' q => k.exc n s₀ ys Hb e s' W q
  subst ex
  obtain rfl : v = Value.ref a := rv
  obtain ⟨its, rits, pl, hlen⟩ := I1.list (.inl (.inl ha))
  refine seg_at ?_
  show Seg _ _ _ _ n s₀ c ((yieldFrom Φ.env (.ref a)).wrap (fun b => (dropValue (.YieldFrom e yp) pos b).wrap C J gd lv) J gd lv) fs s1
  unfold yieldFrom
  refine seg_bind_wrap (wpAny_typeOf pl.isList.typeIs ?_)
  rw [if_neg (show ¬ ((Value.type "list" == Value.type "coroutine") = true) by decide)]
  refine seg_bind_wrap (wpAny_holding (g.over.symm ▸ ?_))
  refine wpAny_pyIter_list pl.isList ?_
  have lift : ∀ b o, s1.heap.get? b = some o → (s1.heap.push { cls := .type "list_iterator", data := .fields #[.ref a, .int 0 0] }).get? b = some o := fun b o z => Heap.get?_push_of_some _ z
  have old : ∀ b o, s1.heap.get? b = some o → b ≠ s1.heap.objs.size := fun b o z => Nat.ne_of_lt (Heap.lt_size z)
  have gez : Φ.n0 ≤ s1.heap.objs.size := Nat.le_of_lt I1.lt
  have hai : a ≠ s1.heap.objs.size := by
    obtain ⟨_, _, z, _⟩ := pl
    exact old _ _ z
  refine seg_call fun p => ?_
  refine seg_yl (xs := xs) (ys := ys) (its := its) (a := a) F g.ip (fun p hp => old p.1 _ (I1.pin p hp).1) gez (Nat.ne_of_gt I1.lt) (fun y c hy => ?_) (I1.hok.fresh (Nat.le_refl _)) ha rits hai ?_ ?_ ?_ hle hyl
    (fun n2 s2 s3 h2 hG => ?_) xs.length 0 n s₀ _ (Nat.zero_add _) hn ⟨Hb, by rw [List.take_zero, List.append_nil]; exact W, I1.kept (t' := s1.toks) lift⟩ (Heap.get?_push_size _ rfl) ?_
  · obtain ⟨v, o, ho, _⟩ := I1.cell y c hy
    exact old c o ho
  · show (Φ.A.over c fs).handled = none
    rw [g.over]; exact hh
  · show (splitAtGen fs).map _ = none
    rw [g.split]; rfl
  · show (gd false || fs.any Frame.guarded) = false
    rw [g.gd, g.guard]; rfl
  · exact seg_leaf (.ok (.ret .none)) (k.ok n2 (ys ++ xs) s2 s3 .next h2 ⟨σ, H1, hG, hq⟩)
  · obtain ⟨o, z, r⟩ := pl.isList
    exact ⟨o, lift _ _ z, r⟩
end
end Eyes

set_option Elab.async false
set_option linter.all false
set_option maxRecDepth 100000
set_option maxHeartbeats 4000000
/-! A generator def's promise under any such consumer, by its body. -/
namespace Eyes
open PySem PySem.Spec PyProof.Rows L2 GenW
abbrev SpY := List V → Hp → (List V → V → Hp → Prop) → (List V → Hp → Prop) → XK → Prop
def YEr (P : Program) (w : World) (outer : List Env) (Hc : Hp) (sc : Shared) (yl : List V → V → Hp → Prop) (E : XK) (a : Addr) (g : Nat) (e : Value) (s1 : Shared) : Prop :=
  (L2.CX P w outer Hc sc E e s1 ∨ ((∃ zs x H, yl zs x H) ∧ ∃ Hb sb, L2.CX P w outer Hb sb E e s1)) ∧ s1.heap.IsGen a g
def YFi (P : Program) (w : World) (outer : List Env) (n0 : Nat) (S : Addr) (Hc : Hp) (sc : Shared) (yl : List V → V → Hp → Prop) (Q : List V → Hp → Prop) (s₀ s1 : Shared) : Prop :=
  ∃ ys Hb H1, Wk S n0 Hc sc yl s₀ ys Hb ∧ s1.os = s₀.os ∧ AllBare s1.gens ∧ Un (frs outer) [] Hb H1 (headN sc.heap s₀.heap) s1.heap ∧ HOk P w H1 s1.heap ∧ Q ys H1
def YEnd (P : Program) (w : World) (outer : List Env) (n0 : Nat) (S : Addr) (Hc : Hp) (sc : Shared) (yl : List V → V → Hp → Prop) (Q : List V → Hp → Prop) (E : XK) (a : Addr) (g : Nat) : GenEnd := fun n s₀ r s1 =>
  ((r = .ok (.ret .none) ∨ r = .ok .next) ∧ YFi P w outer n0 S Hc sc yl Q s₀ s1) ∨ ∃ e, r = .error e ∧ YEr P w outer Hc sc yl E a g e s1
def YIt (P : Program) (w : World) (outer : List Env) (n0 : Nat) (S L : Addr) (Hc : Hp) (sc : Shared) (yl : List V → V → Hp → Prop) (a : Addr) (g : Nat) : Protocol := fun n s₀ v s1 kap =>
  ∃ ys x Hb H1, n + 1 + ys.length = sizeLine ∧ RelV x v ∧ yl ys x H1 ∧ Wk S n0 Hc sc yl s₀ ys Hb ∧ s1.os = s₀.os ∧ AllBare s1.gens ∧ s1.heap.NoLimit ∧ s1.heap.IsGen a g ∧ Un (frs outer) [] Hb H1 (headN sc.heap s₀.heap) s1.heap ∧ HOk P w H1 s1.heap ∧ ∀ s' v', RelV x v' → Slp S L v' s1 s' → kap (.send .none) s'
def GMd (P : Program) (w : World) (base : Heap) (k : Nat) (outer : List Env) (Hc : Hp) (sc : Shared) (yl : List V → V → Hp → Prop) (Q : List V → Hp → Prop) (E : XK) (u : Value) (s' : Shared) : Prop :=
  ∃ (a : Addr) (g : Nat) (c : Code), u = .ref a ∧ sc.heap.objs.size ≤ a ∧ a < s'.heap.objs.size ∧ s'.heap.IsGen a g ∧ s'.gens[g]? = some (.fresh c) ∧ s'.os = sc.os ∧ AllBare s'.gens ∧ s'.heap.NoLimit ∧ (∀ b o, sc.heap.get? b = some o → s'.heap.get? b = some o) ∧
    ∀ (A : Around) (S L : Addr) (s2 : Shared), Room k A → A.frames = some outer → Far base outer sc.heap S L → Hc S = none → Hc L = none → (∃ o, s2.heap.get? L = some o ∧ ∀ vs, o.data ≠ .fields vs) →
      (∀ b o, s'.heap.get? b = some o → s2.heap.get? b = some o) → (∃ c, s2.heap.get? S = some (lstObj #[] c)) → s2.os = sc.os → AllBare s2.gens →
      Seg (model P w) A (YEnd P w outer sc.heap.objs.size S Hc sc yl Q E a g) (YIt P w outer sc.heap.objs.size S L Hc sc yl a g) sizeLine s2 c ((model P w).den c) [] s2
structure GFy (P : Program) (w : World) (K : PySem.W.Frag) (mg : Str → Option Value) (base : Heap) (k : Nat) (f : Addr) (fd : FuncData) (ps : List Str) (sp : SpY) : Prop where
  len : ∀ vs H yl Q E, sp vs H yl Q E → vs.length = ps.length
  run : ∀ (A : Around) (outer : List Env) (s : Shared) (H : Hp) (args : Args) (us : List Value) (vs : List V) (yl : List V → V → Hp → Prop) (Q : List V → Hp → Prop) (E : XK), Room k A → Env0 P w K mg base A outer s H → BindsTo s fd args (ps.zip us) → Vals vs us → sp vs H yl Q E →
    codeAny (model P w) A (.call (.ref f) args) (fun r s' => match r with | .ok (.ret u) => GMd P w base k outer H s yl Q E u s' | _ => False) s
theorem gfy_of {P : Program} {w : World} {K : PySem.W.Frag} {mg : Str → Option Value} {base : Heap} {k : Nat} {f : Addr} {fd : FuncData} {x qual : Str} {st : Stmt} {N ps : List Str} {sp : SpY} (F : Fun K x qual st f fd) (S : GScope N ps (defScope st)) (len : ∀ vs H yl Q E, sp vs H yl Q E → vs.length = ps.length)
    (body : ∀ (cdv : Value) (A : Around) (outer : List Env) (n0 : Nat) (S L : Addr) (sc : Shared) (H : Hp) (vs : List V) (yl : List V → V → Hp → Prop) (Q : List V → Hp → Prop) (E : XK) (pn : List (Addr × Obj)), Room k (A.deeper (envOfC qual (defScope st) n0 f cdv)) → sp vs H yl Q E → A.handled = none →
      GF ⟨P, w, K, mg, base, N, qual, defScope st, f, cdv, A, outer, n0, E, pn, S, L, yl, H, sc⟩ →
      ∃ t, YSs ⟨P, w, K, mg, base, N, qual, defScope st, f, cdv, A, outer, n0, E, pn, S, L, yl, H, sc⟩ (defBody st) t ∧ t { nx := fun ys _ G => Q ys G, rt := fun ys v G => v = .non ∧ Q ys G } [] (L2.start N vs) H) :
    GFy P w K mg base (k + 1) f fd ps sp := by
  obtain ⟨oc, od, kV, doc, pm, an, cdv, ct, osl, rfl, lk, hcd⟩ := F.ex
  refine ⟨len, fun A outer s H args us vs yl Q E hr e0 hb r hsp => ?_⟩
  have hl := len _ _ _ _ _ hsp
  have kin : K.In s.heap := e0.mod.kin.keeps fun b o z => (e0.bs b o z).1
  have lim : s.heap.NoLimit := e0.mod.nolimit.keeps fun b o z => (e0.bs b o z).1
  refine codeAny_call_generator hr.depth (kin _ _ lk) rfl S.co S.gen rfl (PySem.W.codeRec_of kin hcd) (hb _ _ _ _ ?_)
  refine wpAny_newFunctionEnv_cells S.kind ?_ fun env he s1 x1 => ?_
  · rintro ⟨n, v⟩ hy
    rcases S.par n (List.of_mem_zip hy).1 with z | z
    · exact .inl z
    · exact .inr ⟨z, PySem.W.cellsFrom_some _ _ _ (.inl z)⟩
  subst he
  have lim1 : s1.heap.NoLimit := lim.keeps x1.toInCall.keep
  refine ⟨lim1, ?_⟩
  obtain ⟨h1, tk, es1, hk1⟩ := x1.done
  have os1 : s1.os = s.os := by rw [es1]
  have gen1 : s1.gens = s.gens := by rw [es1]
  have lt1 : s.heap.objs.size < s1.heap.objs.size := x1.toInCall.ns.lt
  have kp1 : ∀ b o, s.heap.get? b = some o → s1.heap.get? b = some o := x1.toInCall.keep
  have main : ∀ (go : Obj) (nm qn : Value) (tk2 : Nat), go.cls = .type "generator" → go.data = .fields #[.int s1.gens.size 0, nm, qn] → go.slots = #[] → (∀ h : Heap, (h.push go).get? h.objs.size = some go) →
      GMd P w base (k + 1) outer H s yl Q E (.ref s1.heap.objs.size) { s1 with gens := s1.gens.push (.fresh (.func (defBody st) (envOfC qual (defScope st) s.heap.objs.size f cdv))), toks := tk2, heap := s1.heap.push go } := by
    intro go nm qn tk2 g1 g2 g3 g4
    have isg : ∀ h : Heap, h.get? s1.heap.objs.size = some go → h.IsGen s1.heap.objs.size s1.gens.size := fun h e => ⟨go, nm, qn, e, g1, g2, g3⟩
    have put : (s1.heap.push go).get? s1.heap.objs.size = some go := g4 _
    refine ⟨s1.heap.objs.size, s1.gens.size, _, rfl, Nat.le_of_lt lt1, ?_, isg _ put, Array.getElem?_push_size .., os1, ?_, lim1.keeps fun b o e => Heap.get?_push_of_some _ e, fun b o e => Heap.get?_push_of_some _ (kp1 b o e), ?_⟩
    · show _ < (s1.heap.push _).objs.size
      rw [Heap.size_push]
      exact Nat.lt_succ_self _
    · exact AllBare.push (by rw [gen1]; exact e0.bare) rfl
    intro Aw Sx Lx s2 room hfr far hcS hcL frm hk2 emp hos hba
    have e1 : Env0 P w K mg base Aw outer s H := ⟨hfr, e0.mod, e0.bs, e0.bsz, e0.funs, e0.frf, e0.hok, e0.bare⟩
    have i1 : Inv (gcxOf P w K mg base N qual (defScope st) f cdv Aw outer s H E []) [] (L2.start N vs) H s1 := inv_startG S room.hd e1 hl r x1
    have i2 : Inv (gyx P w K mg base N qual (defScope st) f cdv Aw outer s.heap.objs.size E [] s H) [] (L2.start N vs) H s1 := i1
    have kp2 : ∀ b o, s1.heap.get? b = some o → s2.heap.get? b = some o := fun b o e => hk2 b o (Heap.get?_push_of_some _ e)
    have put2 : s2.heap.get? s1.heap.objs.size = some go := hk2 _ go put
    have sz2 : s.heap.objs.size ≤ s2.heap.objs.size := Nat.le_of_lt (Nat.lt_trans lt1 (Heap.lt_size put2))
    have i3 : Inv (gyx P w K mg base N qual (defScope st) f cdv Aw outer s.heap.objs.size E [(s1.heap.objs.size, go)] (atN s.heap s2) H) [] (L2.start N vs) H s2 :=
      rebase (pn' := [(s1.heap.objs.size, go)]) (ip' := []) rfl far rfl i2 (fun c o _ _ e => kp2 c o e) hcS hcL hba frm sz2 fun p hp => by
        have ep : p = (s1.heap.objs.size, go) := by simpa using hp
        subst ep
        exact ⟨put2, i1.hok.fresh (Nat.le_refl _), Nat.ne_of_gt lt1, i1.nofs (Nat.le_refl _), fun v q => by rw [g2] at q; cases q⟩
    have GFx : GF ⟨P, w, K, mg, base, N, qual, defScope st, f, cdv, Aw, outer, s.heap.objs.size, E, [(s1.heap.objs.size, go)], Sx, Lx, yl, H, s⟩ := ⟨far, rfl, hcS, hcL, fun p hp => by
      rw [List.mem_singleton.mp hp]
      exact Nat.le_of_lt lt1⟩
    obtain ⟨t, ht, hq⟩ := body cdv Aw outer s.heap.objs.size Sx Lx s H vs yl Q E [(s1.heap.objs.size, go)] (room.deeper _) hsp room.hd GFx
    obtain ⟨cS, eS⟩ := emp
    have W0 : Wk Sx s.heap.objs.size H s yl s2 [] H := ⟨⟨#[], cS, .nil, eS⟩, fun _ _ _ n => n, fun b o e => ⟨o, kp2 b o (kp1 b o e)⟩, .inl ⟨rfl, fun b o e => kp2 b o (kp1 b o e)⟩, sz2, hos⟩
    have pinned : ∀ {ip : List (Addr × Obj)} {s₀ s' : Shared} {σ' : L2.St} {H' Hb : Hp}, Inv (gyx P w K mg base N qual (defScope st) f cdv Aw outer s.heap.objs.size E [(s1.heap.objs.size, go)] (atN s.heap s₀) Hb) ip σ' H' s' → s'.heap.IsGen s1.heap.objs.size s1.gens.size := fun {ip s₀ s' σ' H' Hb} J =>
      isg _ (J.pin (s1.heap.objs.size, go) (List.mem_append_left _ (List.mem_singleton.mpr rfl))).1
    refine seg_func (seg_imp (R := fun n s₀ r s1' => match r with
        | .ok (.ret u) => u = .none ∧ ∃ ys Hb ip σ' G, Wk Sx s.heap.objs.size H s yl s₀ ys Hb ∧ Inv (gyx P w K mg base N qual (defScope st) f cdv Aw outer s.heap.objs.size E [(s1.heap.objs.size, go)] (atN s.heap s₀) Hb) ip σ' G s1' ∧ Q ys G
        | .ok _ => False
        | .error e => ∃ ys Hb, Wk Sx s.heap.objs.size H s yl s₀ ys Hb ∧ L2.CX P w outer Hb (atN s.heap s₀) E e s1' ∧ s1'.heap.IsGen s1.heap.objs.size s1.gens.size)
      (Y := YY ⟨P, w, K, mg, base, N, qual, defScope st, f, cdv, Aw, outer, s.heap.objs.size, E, [(s1.heap.objs.size, go)], Sx, Lx, yl, H, s⟩) (fun n s₀ r s1' hR => ?_) (fun n s₀ v s1' kap kap' hkk hY => ?_) sizeLine ?_)
    · cases r with
      | error e =>
        obtain ⟨ys, Hb, W, cx, ig⟩ := hR
        refine .inr ⟨e, rfl, ?_, ig⟩
        rcases W.first with ⟨rfl, old⟩ | z
        · obtain ⟨a, B, G, cls, d, z1, fl, z2, ub, z3, z4, z5, z6⟩ := cx
          have up : ∀ b o, s.heap.get? b = some o → (headN s.heap s₀.heap).get? b = some o := fun b o e => (headN_lt ⟨o, e⟩).trans (old b o e)
          exact .inl ⟨a, B, G, cls, d, z1, fl, z2, ⟨fun b o e => ub.keep b o (up b o e), fun b o e => ub.slot b o (up b o e), fun b o e => ub.free b o (up b o e), fun b o e => ub.there b o (up b o e), ub.tups, ub.frzs, ub.tbls⟩, z3, z4.trans W.os, z5, z6⟩
        · exact .inr ⟨z, Hb, _, cx⟩
      | ok fl =>
        cases fl with
        | next => exact False.elim hR
        | brk => exact False.elim hR
        | cont => exact False.elim hR
        | ret u =>
          obtain ⟨rfl, ys, Hb, ip, σ', G, W, J, hQ⟩ := hR
          exact .inl ⟨.inl rfl, ys, Hb, G, W, J.os, J.bare, J.base, J.hok, hQ⟩
    · obtain ⟨ys, xx, ip, σ', G, hn, rv, hy, ⟨Hb, W, J⟩, h3⟩ := hY
      exact ⟨ys, xx, Hb, G, hn, rv, hy, W, J.os, J.bare, J.nolimit, pinned J, J.base, J.hok, fun s' v' r' z => hkk _ _ (h3 s' v' r' z)⟩
    · refine ht.run [] _ sizeLine [] s2 _ [] _ _ id id s2 (L2.start N vs) H _ ⟨fun p hp => (by simp at hp), over_func, rfl, rfl, rfl⟩ (Nat.add_zero _) ⟨fun n ys s₀ s' fl hn hs => ?_, fun n s₀ ys Hb e s' W hx => ?_⟩ ⟨H, W0, i3⟩ hq
      · cases fl with
        | next =>
          obtain ⟨σ', G, ⟨Hb, W, J⟩, hQ⟩ := hs
          exact seg_end (.ok (.ret .none)) ⟨rfl, ys, Hb, [], σ', G, W, J, hQ⟩
        | brk => obtain ⟨_, _, _, q⟩ := hs; exact False.elim q
        | cont => obtain ⟨_, _, _, q⟩ := hs; exact False.elim q
        | ret u =>
          obtain ⟨v, σ', G, ⟨Hb, W, J⟩, rv, ev, hQ⟩ := hs
          subst ev
          have eu : u = Value.none := rv
          exact seg_end (.ok (.ret u)) ⟨eu, ys, Hb, [], σ', G, W, J, hQ⟩
      · refine seg_wrap (over_func.symm ▸ ?_)
        refine wpAny_mono (show wpAny (model P w) (Aw.deeper (envOfC qual (defScope st) s.heap.objs.size f cdv)) (leaving (envOfC qual (defScope st) s.heap.objs.size f cdv) e) (fun _ s'' => L2.CX P w outer Hb (atN s.heap s₀) E e s'' ∧ ∀ p ∈ [(s1.heap.objs.size, go)], s''.heap.get? p.1 = some p.2) (fun _ _ => False) s' from hx) (fun _ s'' q => ?_) fun _ s'' q => q.elim
        exact seg_end (.error e) ⟨ys, Hb, W, q.1, isg _ (q.2 (s1.heap.objs.size, go) (List.mem_singleton.mpr rfl))⟩
  exact main _ _ _ _ rfl rfl rfl fun h => Heap.get?_push_size _ rfl
end Eyes

set_option Elab.async false
set_option linter.all false
set_option maxRecDepth 100000
set_option maxHeartbeats 4000000
/-! The consumer: what it knows while the generator runs; its loop's target, its test, its append, told to the last object. -/
namespace Eyes
open PySem PySem.Spec PyProof.Rows L2 GenW Evl
section
variable {X : Cx} {pins : List (Addr × Obj)} {σ : L2.St} {H : Hp} {s : Shared}
structure Below (X : Cx) (pins : List (Addr × Obj)) (h0 : Heap) : Prop where
  s : ∀ b o, X.s_0.heap.get? b = some o → b ∉ X.ex → ∃ o', h0.get? b = some o'
  l : ∃ o, h0.get? X.env.locals = some o
  c : ∀ x c, X.env.cells.lookup x = some c → ∃ o, h0.get? c = some o
  p : ∀ p ∈ X.pn ++ pins, ∃ o, h0.get? p.1 = some o
  f : ∀ b ∈ frs X.stack, ∃ o, h0.get? b = some o
theorem inv_below (I : Inv X pins σ H s) : Below X pins s.heap := by
  refine ⟨fun b o e a => I.base.there b o e a, ?_, fun x c e => ?_, fun p hp => ⟨_, (I.pin p hp).1⟩, fun b hb => ?_⟩
  · obtain ⟨m, ⟨o, es, ep, ho, _⟩, _⟩ := I.loc
    exact ⟨o, ho⟩
  · obtain ⟨v, o, ho, _⟩ := I.cell x c e
    exact ⟨o, ho⟩
  · obtain ⟨_, o, e, _⟩ := I.env0.funs.mem hb
    exact ⟨o, e⟩
theorem inv_cutAt {n : Heap} (I : Inv X pins σ H s) (B : Below X pins n) (hd : ∀ b o, H b = some o → ∃ o', n.get? b = some o') : Inv X pins σ H (atN n s) := by
  have old : ∀ b o, X.s_0.heap.get? b = some o → b ∉ X.ex → (headN n s.heap).get? b = s.heap.get? b := fun b o e a => headN_lt (B.s b o e a)
  have cellK : ∀ x c v, X.env.cells.lookup x = some c → s.heap.IsCell c v → (headN n s.heap).IsCell c v := fun x c v e ⟨o, ho, z⟩ => ⟨o, (headN_lt (B.c x c e)).trans ho, z⟩
  obtain ⟨m, hn, hl⟩ := I.loc
  refine ⟨I.ok, I.os, I.bare, ⟨fun b o e a1 a2 a3 => (old b o e a3).trans (I.base.keep b o e a1 a2 a3), fun b o e a1 a2 a3 => ?_, I.base.free, fun b o e a1 => ?_, I.base.tups, I.base.frzs, I.base.tbls⟩, ⟨m, hn.at' fun o e => (headN_lt B.l).trans e, fun i x v e1 e2 e3 => ?_⟩, fun x c e => ?_, I.free, I.freeC, fun p hp => ?_, fun b o q => ?_, I.len⟩
  · obtain ⟨sl, q⟩ := I.base.slot b o e a1 a2 a3
    exact ⟨sl, (old b o e a3).trans q⟩
  · obtain ⟨o', q⟩ := I.base.there b o e a1
    exact ⟨o', (old b o e a1).trans q⟩
  · obtain ⟨u, r, lk⟩ := hl i x v e1 e2 e3
    refine ⟨u, r, ?_⟩
    rcases lk with z | ⟨z, c, hc, hcell⟩
    · exact .inl z
    · exact .inr ⟨z, c, hc, cellK x c _ hc hcell⟩
  · obtain ⟨v, z⟩ := I.cell x c e
    exact ⟨v, cellK x c v e z⟩
  · obtain ⟨p1, p2⟩ := I.pin p hp
    exact ⟨(headN_lt (B.p p hp)).trans p1, p2⟩
  · refine (I.hok b o q).stay (fun d u hd2 r => (headN_lt ?_).trans r) (fun _ r => r) fun _ _ r => r
    rcases hd2 with rfl | hd2
    · exact hd _ _ q
    · exact hd _ _ hd2
structure Ran (X : Cx) (n : Heap) (G Hb H1 : Hp) (s₀ s1 : Shared) : Prop where
  os : s1.os = s₀.os
  bare : AllBare s1.gens
  un : Un (frs X.stack) [] Hb H1 (headN n s₀.heap) s1.heap
  hok : HOk X.prog X.w H1 s1.heap
  ex : Ex G H1
theorem noEx {b : Addr} : b ∉ ([] : List Addr) := fun z => by cases z
theorem inv_ran {n : Heap} {G Hb H1 : Hp} {s₀ s1 : Shared} (I : Inv X pins σ H s₀) (B : Below X pins n) (hd : ∀ b o, H b = some o → ∃ o', n.get? b = some o') (e : Ex G H) (c : Cl G) (R : Ran X n G Hb H1 s₀ s1) (old : ∀ b o, n.get? b = some o → G b = none → Hb b = none) :
    Inv X pins σ H s1 ∧ Inv X pins σ (mrg G H1 H) s1 := by
  have I0 := inv_cutAt I B hd
  have e0 := I0.env0
  have none_ : ∀ {b : Addr}, H b = none → G b = none := fun {b} z => fresh_back e z
  have hb : ∀ b o, (headN n s₀.heap).get? b = some o → G b = none → Hb b = none := fun b o q g => let ⟨o', q'⟩ := (headN_of q).1; old b o' q' g
  have uf : ∀ a o, H a = some o → G a = none → H1 a = none := fun a o ha ga => by
    obtain ⟨ob, hob⟩ := obj_of (I0.hok a o ha)
    exact R.un.free a ob hob (hb a ob hob ga) noEx
  have kp : ∀ b o o2, (headN n s₀.heap).get? b = some o → H b = some o2 → G b = none → s1.heap.get? b = some o := fun b o o2 q h2 gb => R.un.keep b o q (hb b o q gb) (fun hf => by
    have := e0.frf b hf
    rw [h2] at this
    cases this) noEx
  have gt : ∀ b xs, G b = some (.tup xs) → H1 b = some (.tup xs) := fun b xs z => R.ex b _ z
  constructor
  · refine I0.call' (ch := []) R.os ⟨fun b o q n1 hf _ => R.un.keep b o q (hb b o q (none_ n1)) hf noEx, fun b o q n1 hf _ => R.un.slot b o q (hb b o q (none_ n1)) hf noEx, fun _ _ _ n1 _ => n1, R.un.there, fun _ _ z => z, fun _ _ _ z => z, fun _ ps z => ⟨#[], by rw [z]; simp⟩⟩ (fun a o q => ?_) R.bare fun b z => by cases z
    cases g : G a with
    | some o2 =>
      have e2 := e a o2 g
      rw [q] at e2
      cases e2
      exact ((HOk.sub R.hok R.ex c) a o g).stay (fun b u _ r => r) (fun b r => e b _ r) fun b xs r => e b _ r
    | none =>
      refine (I0.hok a o q).stay (fun b u hb2 r => ?_) (fun b r => r) fun b xs r => r
      rcases hb2 with rfl | hb2
      · exact kp b u o r q g
      · refine kp b u _ r hb2 ?_
        cases gb : G b with
        | none => rfl
        | some o3 =>
          have := e b o3 gb
          rw [hb2] at this
          cases this
          obtain ⟨C, fs, hi⟩ := c.ins a b gb
          rw [g] at hi
          cases hi
  · refine I0.call' (ch := []) R.os ⟨fun b o q n1 hf _ => R.un.keep b o q (hb b o q (none_ n1)) hf noEx, fun b o q n1 hf _ => R.un.slot b o q (hb b o q (none_ n1)) hf noEx, fun b o q n1 _ => ?_, R.un.there, fun b xs z => ?_, fun b o u z => ?_, fun b ps z => ?_⟩ (mrg_hok I0.hok R.hok e c uf gt kp) R.bare fun b z => by cases z
    · rw [mrg_new (none_ n1) n1]
      exact R.un.free b o q (hb b o q (none_ n1)) noEx
    · cases g : G b with
      | some o2 =>
        have e2 := e b o2 g
        rw [z] at e2
        cases e2
        rw [mrg_in g]
        exact gt b xs g
      | none => exact mrg_out g z
    · cases g : G b with
      | some o2 =>
        have e2 := e b o2 g
        rw [z] at e2
        cases e2
        exact absurd g (c.frz b o u)
      | none => exact mrg_out g z
    · cases g : G b with
      | some o2 =>
        have e2 := e b o2 g
        rw [z] at e2
        cases e2
        exact absurd g (c.tbl b ps)
      | none => exact ⟨#[], by rw [mrg_out g z]; simp⟩
theorem inv_stored {i : Nat} {x : Str} {v : V} {u : Value} {h' : Heap} {m : Str → Option Value} {tk : Nat} (I : Inv X pins σ H s) (hN : X.N.Nodup) (hi : X.N[i]? = some x) (hk : X.env.kindOf x = some .local) (r : RelV v u) (hm : ∀ (j : Nat) (y : Str) (z : V), X.N[j]? = some y → σ[j]? = some (some z) → Vis X.env.scope y → ∃ u, RelV z u ∧ Look X.env s.heap m y u)
    (hn : h'.Ns X.env.locals (fun y => if y = x then some u else m y)) (hs : Heap.SameBut X.env.locals s.heap h') : Inv X pins (σ.set i (some v)) H { s with heap := h', toks := tk } := by
  have nl : ∀ b o, X.s_0.heap.get? b = some o → b ≠ X.env.locals := fun b o e => Nat.ne_of_lt (Nat.lt_of_lt_of_le (Heap.lt_size e) I.ok.above)
  have li : i < σ.length := by rw [I.len]; exact (List.getElem?_eq_some_iff.mp hi).1
  have cne := I.cne
  refine ⟨I.ok, I.os, I.bare, ⟨fun b o e a1 a2 a3 => (hs.2 b (nl b o e)).trans (I.base.keep b o e a1 a2 a3), fun b o e a1 a2 a3 => ?_, I.base.free, fun b o e a1 => ?_, I.base.tups, I.base.frzs, I.base.tbls⟩, ⟨_, hn, fun j y z e1 e2 e3 => ?_⟩, fun y c e => ?_, I.free, I.freeC, fun p hp => ?_, fun b o q => ?_, by rw [List.length_set]; exact I.len⟩
  · obtain ⟨sl, q⟩ := I.base.slot b o e a1 a2 a3
    exact ⟨sl, (hs.2 b (nl b o e)).trans q⟩
  · obtain ⟨o', q⟩ := I.base.there b o e a1
    exact ⟨o', (hs.2 b (nl b o e)).trans q⟩
  · by_cases hj : j = i
    · subst hj
      rw [hi] at e1
      cases e1
      rw [List.getElem?_set_self li] at e2
      cases e2
      exact ⟨u, r, .inl ⟨hk, by simp⟩⟩
    · rw [List.getElem?_set_ne (Ne.symm hj)] at e2
      obtain ⟨u2, r2, lk⟩ := hm j y z e1 e2 e3
      refine ⟨u2, r2, ?_⟩
      rcases lk with ⟨a1, a2⟩ | ⟨a1, c, hc, o, ho, hd⟩
      · refine .inl ⟨a1, ?_⟩
        have ne : y ≠ x := fun q => hj (nodup_ix hN (q ▸ e1) hi)
        show (if y = x then some u else m y) = some u2
        rw [if_neg ne]
        exact a2
      · exact .inr ⟨a1, c, hc, o, (hs.2 c (cne y c hc)).trans ho, hd⟩
  · obtain ⟨v2, o, ho, hd⟩ := I.cell y c e
    exact ⟨v2, o, (hs.2 c (cne y c e)).trans ho, hd⟩
  · obtain ⟨p1, p2, p3, p4⟩ := I.pin p hp
    exact ⟨(hs.2 p.1 p3).trans p1, p2, p3, p4⟩
  · refine (I.hok b o q).stay (fun d w hd e => (hs.2 d ?_).trans e) (fun _ e => e) fun _ _ e => e
    rintro rfl
    rcases hd with rfl | hd
    · have := I.free
      rw [q] at this
      cases this
    · have := I.free
      rw [hd] at this
      cases this
end
end Eyes

set_option Elab.async false
set_option linter.all false
set_option maxRecDepth 100000
set_option maxHeartbeats 4000000
/-! The frame rule for a def that may raise. -/
namespace Eyes
open PySem PySem.Spec PyProof.Rows L2 Evl
def spFrX (sp : Sp) : Sp := fun vs H Q E => ∃ G : Hp, Ex G H ∧ Cl G ∧ sp vs G (fun v G' => (∀ a o, H a = some o → G a = none → G' a = none) → Own1 G' → Q v (mrg G G' H)) (fun cls d G' => (∀ a o, H a = some o → G a = none → G' a = none) → Own1 G' → E cls d (mrg G G' H))
section
variable {P : Program} {w : World} {K : PySem.W.Frag} {mg : Str → Option Value} {base : Heap}
theorem mrg_tup {G G' H : Hp} (e : Ex G H) (t : ∀ b xs, G b = some (.tup xs) → G' b = some (.tup xs)) (b : Addr) (xs : List V) (hb : H b = some (.tup xs)) : mrg G G' H b = some (.tup xs) := by
  cases g : G b with
  | some o2 =>
    have := e b o2 g
    rw [hb] at this
    cases this
    rw [mrg_in g]
    exact t b xs g
  | none => exact mrg_out g hb
theorem mrg_frz {G G' H : Hp} (e : Ex G H) (t : ∀ b o u, G b = some (.frz o u) → G' b = some (.frz o u)) (b : Addr) (o : Obj) (u2 : HO) (hb : H b = some (.frz o u2)) : mrg G G' H b = some (.frz o u2) := by
  cases g : G b with
  | some o2 =>
    have := e b o2 g
    rw [hb] at this
    cases this
    rw [mrg_in g]
    exact t b o u2 g
  | none => exact mrg_out g hb
theorem mrg_tbl {G G' H : Hp} (e : Ex G H) (t : ∀ b ps, G b = some (.tbl ps) → ∃ more, G' b = some (.tbl (ps ++ more))) (b : Addr) (ps) (hb : H b = some (.tbl ps)) : ∃ more, mrg G G' H b = some (.tbl (ps ++ more)) := by
  cases g : G b with
  | some o2 =>
    have := e b o2 g
    rw [hb] at this
    cases this
    rw [mrg_in g]
    exact t b ps g
  | none => exact ⟨#[], by rw [mrg_out g hb]; simp⟩
theorem FnOk.frameX {k : Nat} {f : Addr} {fd : FuncData} {ps : List Str} {sp : Sp} (F : FnOk P w K mg base (L2.CX P w) k f fd ps sp) : FnOk P w K mg base (L2.CX P w) k f fd ps (spFrX sp) := by
  refine ⟨fun vs H Q E h => ?_, fun A outer s H args us vs Q E hr e0 hb hv h => ?_⟩
  · obtain ⟨G, _, _, h⟩ := h
    exact F.len _ _ _ _ h
  · obtain ⟨G, e, c, h⟩ := h
    have none_ : ∀ {b : Addr}, H b = none → G b = none := fun {b} z => fresh_back e z
    have e1 : Env0 P w K mg base A outer s G := ⟨e0.frames, e0.mod, fun b o q => ⟨(e0.bs b o q).1, none_ (e0.bs b o q).2⟩, e0.bsz, e0.funs, fun b hb => none_ (e0.frf b hb), HOk.sub e0.hok e c, e0.bare⟩
    have at_ : ∀ b o, H b = some o → ∃ ob, s.heap.get? b = some ob := fun b o hb => obj_of (e0.hok b o hb)
    have nfr : ∀ {b : Addr} {o : HO}, H b = some o → b ∉ frs outer := fun {b o} h2 hf => by
      have := e0.frf b hf
      rw [h2] at this
      cases this
    refine codeAny_mono (F.run A outer s G args us vs _ _ hr e1 hb hv h) fun r s' hq => ?_
    cases r with
    | error er =>
      obtain ⟨a, B, G', cls, d, rfl, fl, hok, ub, na, os, ag, hE⟩ := hq
      have uf : ∀ a o, H a = some o → G a = none → G' a = none := fun a o ha ga => by
        obtain ⟨ob, hob⟩ := at_ a o ha
        exact ub.free a ob hob ga
      have own1 : Own1 G' := fun a C dx fs g => by
        obtain ⟨z, _⟩ := hok a _ g
        exact z
      refine ⟨a, B, mrg G G' H, cls, d, rfl, fl, ?_, ?_, ?_, os, ag, hE uf own1⟩
      · exact mrg_hok e0.hok hok e c uf ub.tups fun b o o2 hb h2 gb => ub.keep b o hb gb (nfr h2)
      · refine ⟨fun b o hb n hfs => ub.keep b o hb (none_ n) hfs, ub.slot, fun b o hb n => ?_, ub.there, mrg_tup e ub.tups, mrg_frz e ub.frzs, mrg_tbl e ub.tbls⟩
        rw [mrg_new (none_ n) n]
        exact ub.free b o hb (none_ n)
      · cases g : G a with
        | some o2 =>
          rw [mrg_in g]
          exact na
        | none =>
          cases k : H a with
          | none =>
            rw [mrg_new g k]
            exact na
          | some o2 =>
            obtain ⟨ob, hob⟩ := at_ a o2 k
            have h1 := ub.keep a ob hob g (nfr k)
            have h2 := fl.2.1
            rw [h1] at h2
            cases h2
    | ok fl =>
      cases fl with
      | next => exact hq
      | brk => exact hq
      | cont => exact hq
      | ret u =>
        obtain ⟨v, G', os, bare, un, hok, rv, q⟩ := hq
        have nex : ∀ {b : Addr}, b ∉ ([] : List Addr) := fun {b} z => nomatch z
        have uf : ∀ a o, H a = some o → G a = none → G' a = none := fun a o ha ga => by
          obtain ⟨ob, hob⟩ := at_ a o ha
          exact un.free a ob hob ga nex
        have own1 : Own1 G' := fun a C dx fs g => by
          obtain ⟨z, _⟩ := hok a _ g
          exact z
        refine ⟨v, mrg G G' H, os, bare, ?_, ?_, rv, q uf own1⟩
        · refine ⟨fun b o hb n hfs hx => un.keep b o hb (none_ n) hfs hx, fun b o hb n hfs hx => un.slot b o hb (none_ n) hfs hx, fun b o hb n hx => ?_, un.there, mrg_tup e un.tups, mrg_frz e un.frzs, mrg_tbl e un.tbls⟩
          rw [mrg_new (none_ n) n]
          exact un.free b o hb (none_ n) hx
        · exact mrg_hok e0.hok hok e c uf un.tups fun b o o2 hb h2 gb => un.keep b o hb gb (nfr h2) nex
theorem PrX.frameX {x : Str} {st : Stmt} {ps : List Str} {k : Nat} {sp : Sp} (G : PrX P w K mg base x st ps k sp) : PrX P w K mg base x st ps k (spFrX sp) := by
  obtain ⟨f, fd, hm, F, hb, R⟩ := G
  exact ⟨f, fd, hm, F, hb, FnOk.frameX R⟩
end
end Eyes

set_option Elab.async false
set_option linter.all false
set_option maxRecDepth 100000
set_option maxHeartbeats 4000000
/-! for x in g(..): if test: return found; found.append(x) -/
namespace Eyes
open PySem PySem.Spec PyProof.Rows L2 GenW Evl
def PrY (P : Program) (w : World) (K : PySem.W.Frag) (mg : Str → Option Value) (base : Heap) (x : Str) (st : Stmt) (ps : List Str) (k : Nat) (sp : SpY) : Prop :=
  ∃ (f : Addr) (fd : FuncData), mg x = some (.ref f) ∧ Fun K x x st f fd ∧ Binds K fd ps [] ∧ GFy P w K mg base k f fd ps sp
theorem cx_frame {P : Program} {w : World} {outer : List Env} {G H : Hp} {s s' : Shared} {E E' : XK} {er : Value} (e : Ex G H) (c : Cl G) (hok : HOk P w H s.heap) (frf : ∀ b ∈ frs outer, H b = none)
    (h : L2.CX P w outer G s E er s') (hE : ∀ cls d G', E cls d G' → (∀ a o, H a = some o → G a = none → G' a = none) → Own1 G' → E' cls d (mrg G G' H)) : L2.CX P w outer H s E' er s' := by
  obtain ⟨a, B, G', cls, d, rfl, fl, hk, ub, na, os, ag, hq⟩ := h
  have none_ : ∀ {b : Addr}, H b = none → G b = none := fun {b} z => fresh_back e z
  have at_ : ∀ b o, H b = some o → ∃ ob, s.heap.get? b = some ob := fun b o hb => obj_of (hok b o hb)
  have nfr : ∀ {b : Addr} {o : HO}, H b = some o → b ∉ frs outer := fun {b o} h2 hf => by
    have := frf b hf
    rw [h2] at this
    cases this
  have uf : ∀ a o, H a = some o → G a = none → G' a = none := fun a o ha ga => by
    obtain ⟨ob, hob⟩ := at_ a o ha
    exact ub.free a ob hob ga
  have own1 : Own1 G' := fun a C dx fs g => (hk a _ g).1
  refine ⟨a, B, mrg G G' H, cls, d, rfl, fl, mrg_hok hok hk e c uf ub.tups fun b o o2 hb h2 gb => ub.keep b o hb gb (nfr h2), ⟨fun b o hb n hfs => ub.keep b o hb (none_ n) hfs, ub.slot, fun b o hb n => ?_, ub.there, mrg_tup e ub.tups, mrg_frz e ub.frzs, mrg_tbl e ub.tbls⟩, ?_, os, ag, hE cls d G' hq uf own1⟩
  · rw [mrg_new (none_ n) n]
    exact ub.free b o hb (none_ n)
  · cases g : G a with
    | some o2 => rw [mrg_in g]; exact na
    | none =>
      cases k : H a with
      | none => rw [mrg_new g k]; exact na
      | some o2 =>
        obtain ⟨ob, hob⟩ := at_ a o2 k
        have h1 := ub.keep a ob hob g (nfr k)
        have h2 := fl.2.1
        rw [h1] at h2
        cases h2
section
variable {X : Cx} {pins : List (Addr × Obj)} {σ : L2.St} {H : Hp} {s : Shared}
theorem upd_eta {H : Hp} {a : Addr} {o : HO} (h : H a = some o) : upd H a o = H := by
  funext b
  unfold upd
  split
  · rename_i z
    subst z
    exact h.symm
  · rfl
theorem inv_gens {g : Nat} {gs : GenState} (I : Inv X pins σ H s) (hb : gs.bare = true) : Inv X pins σ H (s.setGen g gs) :=
  ⟨I.ok, I.os, allBare_setGen I.bare hb, I.base, I.loc, I.cell, I.free, I.freeC, I.pin, I.hok, I.len⟩
theorem inv_name {i : Nat} {x : Str} {v : V} {p : Pos} (I : Inv X pins σ H s) (hN : X.N[i]? = some x) (hk : X.env.scope.names.lookup x = some .local) (hv : σ[i]? = some (some v)) (hd : (x == ("__debug__" : Str)) = false := by decide) :
    ∃ u, RelV v u ∧ ∀ Q E, Q u s → wpAny (model X.prog X.w) X.A (eval (.Name x p) X.env) Q E s := by
  obtain ⟨m, hn, hl⟩ := I.loc
  obtain ⟨u, r, lk⟩ := hl i x v hN hv (.inl hk)
  have kd : X.env.kindOf x = some .local := hk
  refine ⟨u, r, fun Q E q => ?_⟩
  rcases lk with ⟨_, a2⟩ | ⟨a1, _⟩
  · exact wpAny_Name (wpAny_loadName_local I.ok.kind kd hn a2 q) hd
  · rw [kd] at a1
    rcases a1 with a1 | a1 <;> cases a1
def TestAt (X : Cx) (test : Expr) (jf : Nat) (C : L2.St → Nat → Bool → Prop) : Prop :=
  ∀ (pins : List (Addr × Obj)) (s : Shared) (σ : L2.St) (H : Hp) (S : Addr) (zs : List V) (b : Bool), Inv X pins σ H s → σ[jf]? = some (some (.ref S)) → H S = some (.lst zs) → C σ zs.length b →
    ∀ (Q : Bool → Shared → Prop) (E : Value → Shared → Prop), (∀ tk, Q b { s with toks := tk }) → wpAny (model X.prog X.w) X.A (isTrue test X.env (eval test X.env)) Q E s
theorem len_at {jf : Nat} {fnd : Str} {p1 p2 p3 : Pos} {S : Addr} {zs : List V} {Q : Value → Shared → Prop} {E : Value → Shared → Prop} (I : Inv X pins σ H s) (hg : Gl X "len") (hm : X.mg "len" = none) (hN : X.N[jf]? = some fnd) (hk : X.env.scope.names.lookup fnd = some .local) (hv : σ[jf]? = some (some (.ref S))) (hS : H S = some (.lst zs)) (hd : (fnd == ("__debug__" : Str)) = false)
    (hq : ∀ t tk, Q (.int zs.length t) { s with toks := tk }) : wpAny (model X.prog X.w) X.A (eval (.Call (.Name "len" p1) [.Name fnd p2] [] p3) X.env) Q E s := by
  refine wpAny_Call_Name_kw (ld_blt I hg hm boot_len ?_)
  obtain ⟨u, r, rd⟩ := inv_name I (p := p2) hN hk hv hd
  obtain rfl : u = Value.ref S := r
  obtain ⟨its, rv, pl, hz⟩ := I.list (.inl (.inl hS))
  have hl := line63
  have hs : sizeLine = 16777216 := sizeLine_eq
  have hlen := rv.length
  refine PyProof.Rows.callWith_builtin1 (Calls.spliced_cons (rd _ _ (Calls.spliced_nil ?_))) rfl rfl
  refine Calls.call_len_list pl.isList (by simp only [List.size_toArray]; omega) ?_
  have e : (its.toArray.size : Int) = zs.length := by simp only [List.size_toArray]; rw [hlen]
  rw [e]
  exact hq _ _
theorem test_ge {jf : Nat} {fnd : Str} {c : Int} {k : Nat} {p1 p2 p3 p4 p5 : Pos} (hg : Gl X "len") (hm : X.mg "len" = none) (hN : X.N[jf]? = some fnd) (hk : X.env.scope.names.lookup fnd = some .local) (hd : (fnd == ("__debug__" : Str)) = false := by decide) :
    TestAt X (.Compare (.Call (.Name "len" p1) [.Name fnd p2] [] p3) [.GtE] [.Constant (.int c) k p4] p5) jf (fun _ n b => b = decide ((n : Int) ≥ c)) := by
  intro pins s σ H S zs b I hv hS hb Q E hq
  subst hb
  refine wpAny_isTrue_Compare1 (len_at I hg hm hN hk hv hS hd fun t tk => ?_) (by first | exact nobehind _ (by decide) (by decide) | rfl)
  refine wpAny_Constant_int ?_
  exact ge_int (wpAny_truthy_bool (hq _))
end
def tForY (sp : SpY) (W : WX) (C : L2.St → Nat → Bool → Prop) (jf i : Nat) (ta : TA) : TS := fun D σ H => ta σ H fun vs H1 => ∃ (S : Addr) (G : Hp) (yl : List V → V → Prop) (Q : List V → Hp → Prop) (E : XK),
  σ[jf]? = some (some (.ref S)) ∧ H1 S = some (.lst []) ∧ Ex G H1 ∧ Cl G ∧ G S = none ∧ sp vs G (fun ys x G' => Ex G G' ∧ yl ys x) (fun ys G' => Ex G G' ∧ Q ys G') E ∧
  ((∀ cls d G', ¬ E cls d G') ∨ ((∀ ys x, ¬ yl ys x) ∧ ∀ cls d G', E cls d G' → (∀ a o, H1 a = some o → G a = none → G' a = none) → Own1 G' → W cls d σ (mrg G G' H1))) ∧
  (∀ ys x, yl ys x → ys.length < sizeLine) ∧
  (∀ ys x y, yl ys x → y = x → ∀ τ, (τ = σ.set i (some y)) → ∃ b, C τ ys.length b ∧ (b = true → D.rt (.ref S) (upd H1 S (.lst ys)))) ∧
  (∀ ys G' τ, Q ys G' → (∀ a o, H1 a = some o → G a = none → G' a = none) → (τ = σ ∨ ∃ y, τ = σ.set i (some y)) → D.nx τ (mrg G G' (upd H1 S (.lst ys))))
section
variable {X : Cx} {x nm fnd : Str} {st : Stmt} {ps : List Str} {sp : SpY} {W : WX} {C : L2.St → Nat → Bool → Prop} {jf i j k : Nat} {e1 test : Expr} {es : List Expr} {ta : TA} {p px pos pos' p2 p3 p4 p5 p6 p7 p8 p9 : Pos}
theorem ps_forY (hp : PassesOwn (model X.prog X.w) X.A X.env X.xe) (hc : X.calm = true) (hN : X.N.Nodup) (hjf : X.N[jf]? = some fnd) (kf : X.env.scope.names.lookup fnd = some .local) (hi : X.N[i]? = some x) (kx : X.env.scope.names.lookup x = some .local) (hij : i ≠ jf)
    (G0 : PrY X.prog X.w X.K X.mg X.base nm st ps j sp) (hr : Room k X.A) (tk : Takes X W) (hns : ∀ σ, NoStop X.K (WE W σ)) (ha : PA X (e1 :: es) ta) (ht : TestAt X test jf C) (hj : j + 1 ≤ k := by first | decide | omega) (hg : Gl X nm := by rfl)
    (hdb : (nm == ("__debug__" : Str)) = false := by decide) (hdf : (fnd == ("__debug__" : Str)) = false := by decide) (hdx : (x == ("__debug__" : Str)) = false := by decide) (he : starEach (e1 :: es) X.env = (false, eval e1 X.env) :: starEach es X.env := by rfl) (hpl : (backTo pos' (starEach es X.env)).any (·.1) = false := by rfl)
    (hfs : ∀ v, foldedSetIterable (.Call (.Name nm p) (e1 :: es) [] pos') X.env v = pure v := by intro _; rfl) (hint : interactive X.env = false := by rfl) (hsw : swapsWith (.Call (.Attribute (.Name fnd p5) "append" p6) [.Name x p7] [] p8) none p9.line X.env = pure false := by rfl)
    (hbase : attributeBase (.Name fnd p5) "append" X.env (eval (.Name fnd p5) X.env) = eval (.Name fnd p5) X.env := by rfl)
    (hfew : ((backTo p8 (starEach [.Name x p7] X.env)).all (fun z => !z.1) && (backToKw p8 (keywordEach [] X.env)).all (fun z => z.1.isSome) && decide (([.Name x p7] : List Expr).length + ([] : List Keyword).length + (if ([] : List Keyword).isEmpty then 0 else 1) < 30)) = true := by rfl)
    (hline : (p6.endLine == p8.line) = true := by rfl) :
    PS X (.For (.Name x px) (.Call (.Name nm p) (e1 :: es) [] pos') [.If test [.Return (some (.Name fnd p2)) p3] [] p4, .Expr (.Call (.Attribute (.Name fnd p5) "append" p6) [.Name x p7] [] p8) p9] [] pos) (tForY sp W C jf i ta) := by
  obtain ⟨f, fd, hm, F0, hbd, F⟩ := G0
  refine ⟨fun pins s σ H D I h => wpAny_For (wpAny_Call_Name_kw (ld_glob I hg hm ?_ hdb)) hfs⟩
  refine PySem.W.callWith_K (h₀ := X.base) I.ok.mod.kin F0.kp (thn (ha.run pos' pins s σ H _ I h) fun us sc ⟨vs, H1, I1, r, q⟩ => ⟨I1.kIn, ?_⟩) he hpl
  obtain ⟨S, G, yl, Q, E, hS, hlst, e, c, gS, hsp, herr, hlt, htest, hfin⟩ := q
  have e0 := I1.env0
  have none_ : ∀ {b : Addr}, H1 b = none → G b = none := fun {b} z => fresh_back e z
  have eG : Env0 X.prog X.w X.K X.mg X.base X.A X.stack sc G := ⟨e0.frames, e0.mod, fun b o z => ⟨(e0.bs b o z).1, none_ (e0.bs b o z).2⟩, e0.bsz, e0.funs, fun b hb => none_ (e0.frf b hb), HOk.sub e0.hok e c, e0.bare⟩
  have hl : us.length = ps.length := by rw [← r.length]; exact F.len _ _ _ _ _ hsp
  have bt := hbd sc us I1.kIn (by rw [List.append_nil]; exact hl)
  rw [List.append_nil] at bt
  refine wpAny_call (codeAny_mono (F.run X.A X.stack sc G ⟨us, []⟩ us vs _ _ E (hr.mono (by omega)) eG bt r hsp) fun rr s1 hq => ?_)
  cases rr with
  | error er => exact hq.elim
  | ok fl =>
  cases fl with
  | next => exact hq.elim
  | brk => exact hq.elim
  | cont => exact hq.elim
  | ret u =>
  obtain ⟨a, g, cd, rfl, ha1, ha2, isg, hgs, os1, bare1, lim1, keep1, wake⟩ := hq
  refine wpAny_pyIter_gen isg ?_
  have B := inv_below I1
  have Hd : ∀ (ys : List V) b o, upd H1 S (.lst ys) b = some o → ∃ o', sc.heap.get? b = some o' := fun ys b o z => by
    by_cases hb : b = S
    · subst hb
      exact obj_of (I1.hok b _ hlst)
    · rw [upd_ne hb] at z
      exact obj_of (I1.hok b _ z)
  have Ge : ∀ ys, Ex G (upd H1 S (.lst ys)) := fun ys b o z => by
    have hb : b ≠ S := fun q => by rw [q, gS] at z; cases z
    rw [upd_ne hb]
    exact e b o z
  have Ia : Inv X pins σ H1 s1 := I1.call' (ch := []) os1 (Un.kept keep1) (I1.hok.kept keep1) bare1 fun b z => by cases z
  have szL : X.env.locals < sc.heap.objs.size := I1.lt
  have frmL : ∀ {τ : L2.St} {H' : Hp} {t : Shared}, Inv X pins τ H' t → ∃ o, t.heap.get? X.env.locals = some o ∧ ∀ vs, o.data ≠ .fields vs := fun {τ H' t} J => by
    obtain ⟨m, ⟨o, es2, ep, ho, hd, _⟩, _⟩ := J.loc
    exact ⟨o, ho, fun vs z => by rw [hd] at z; cases z⟩
  have baseN : ∀ b o, X.base.get? b = some o → b ≠ X.env.locals := fun b o z q => by
    have h1 := Heap.lt_size z
    have h2 := Nat.le_trans I1.ok.bsz I1.ok.above
    rw [q] at h1
    exact Nat.lt_irrefl _ (Nat.lt_of_lt_of_le h1 h2)
  have far : Far X.base X.stack sc.heap S X.env.locals := by
    refine ⟨Hd [] S _ (by rw [upd_same]), B.l, fun hf => ?_, ?_, ?_, fun b o z => ⟨o, (e0.bs b o z).1⟩, e0.bsz, B.f⟩
    · have := e0.frf S hf
      rw [hlst] at this
      cases this
    · cases q : X.base.get? S with
      | none => rfl
      | some o =>
        have := (e0.bs S o q).2
        rw [hlst] at this
        cases this
    · cases q : X.base.get? X.env.locals with
      | none => rfl
      | some o => exact (baseN _ o q rfl).elim
  have gL : G X.env.locals = none := none_ I1.free
  have nSL : S ≠ X.env.locals := fun q => by
    have := I1.free
    rw [← q, hlst] at this
    cases this
  have lstS : ∀ {τ : L2.St} {t : Shared} {ys : List V}, Inv X pins τ (upd H1 S (.lst ys)) t → ∃ its n, Vals ys its ∧ t.heap.get? S = some (lstObj its.toArray n) := fun {τ t ys} J => by
    obtain ⟨_, its, n, rv, z⟩ := J.hok S _ upd_same
    exact ⟨its, n, rv, z⟩
  have room1 : Room j X.A.in1 := (hr.mono hj).in1
  refine codeAny_forLoop_any (fun n t => ∃ ys τ gs, n + ys.length = sizeLine ∧ Inv X pins τ (upd H1 S (.lst ys)) t ∧ (τ = σ ∨ ∃ y, τ = σ.set i (some y)) ∧ t.heap.IsGen a g ∧ t.gens[g]? = some gs ∧
    gs.Goes (model X.prog X.w) X.A.in1 (YEnd X.prog X.w X.stack sc.heap.objs.size S G sc (fun ys x G' => Ex G G' ∧ yl ys x) (fun ys G' => Ex G G' ∧ Q ys G') E a g) (YIt X.prog X.w X.stack sc.heap.objs.size S X.env.locals G sc (fun ys x G' => Ex G G' ∧ yl ys x) a g) n (.send .none) (t.setGen g .running)) ?_ sizeLine ?_
  · rintro n t ⟨ys, τ, gs, hn, It, hτ, isgt, hgt, hgo⟩
    have hgl : g < t.gens.size := (Array.getElem?_eq_some_iff.mp hgt).1
    have It1 : Inv X pins τ (upd H1 S (.lst ys)) (t.setGen g .running) := inv_gens It rfl
    obtain ⟨its, nL, rvS, eS⟩ := lstS It
    have same : ∀ {ys' : List V} {Hb : Hp}, Wk S sc.heap.objs.size G sc (fun ys x G' => Ex G G' ∧ yl ys x) (t.setGen g .running) ys' Hb → ys' = ys := fun {ys' Hb} W => by
      obtain ⟨acc, cc, ra, ea⟩ := W.lst
      have ea2 : t.heap.get? S = some (lstObj acc cc) := ea
      rw [eS] at ea2
      cases ea2
      exact ra.inj rvS
    have slot : τ[jf]? = some (some (.ref S)) := by
      rcases hτ with rfl | ⟨y, rfl⟩
      · exact hS
      · rw [List.getElem?_set_ne hij]
        exact hS
    refine wpAny_passesOwn hp (wpAny_gsz (n := g + 1) hgl (next_genG (A := X.A) (I1.ok.hd hc) It.nolimit hr.depth isgt hgt hgo (fun v t1 gs' hb' hy => ?_) (fun t1 hf h' hk => ?_) fun er t1 her => ?_))
    · intro hsz
      obtain ⟨ys', xv, Hb, G1, hn', rv, ⟨eg, hyl⟩, Wq, os', bare', lim', isg', un, hok', wk⟩ := hy
      obtain rfl := same Wq
      obtain ⟨m, rfl⟩ : ∃ m, n = m + 1 := ⟨n - 1, by have := hlt ys' xv hyl; omega⟩
      have hsz1 : g < t1.gens.size := by
        have q : (t1.setGen g gs').gens.size = t1.gens.size := setGen_size _ _ _
        have q2 : g + 1 ≤ (t1.setGen g gs').gens.size := hsz
        omega
      obtain ⟨J, _⟩ := inv_ran It1 B (Hd ys') (Ge ys') c (⟨os', allBare_setGen bare' hb', un, hok', eg⟩ : Ran X sc.heap G Hb G1 (t.setGen g .running) (t1.setGen g gs')) fun b o z n1 => Wq.old b o z n1
      obtain ⟨og, nmg, qng, eog, hcg, hdg, hsg⟩ := isg'
      refine go_of (s := t1.setGen g gs') (n := "generator") eog hcg hdg (by decide) ?_
      obtain ⟨mL, hnL, hlL⟩ := J.loc
      have kx2 : X.env.kindOf x = some .local := kx
      have hcls : (X.env.scope.kind == .class || (X.env.scope.kind == .module && X.env.locals != X.env.globals)) = false := by rw [I1.ok.kind]; rfl
      refine wpAny_passesOwn hp (wpAny_assign_Name (wpAny_storeName_local kx2 hnL (fun h2 hn2 hs2 => ?_) hcls))
      have J2 : Inv X pins (τ.set i (some xv)) (upd H1 S (.lst ys')) { t1.setGen g gs' with heap := h2, toks := (t1.setGen g gs').toks + 1 } := inv_stored J hN hi kx2 rv hlL hn2 hs2
      have slot2 : (τ.set i (some xv))[jf]? = some (some (.ref S)) := by
        rw [List.getElem?_set_ne hij]
        exact slot
      have eτ : τ.set i (some xv) = σ.set i (some xv) := by
        rcases hτ with rfl | ⟨y, rfl⟩
        · rfl
        · rw [List.set_set]
      obtain ⟨bb, hCb, hstop⟩ := htest ys' xv xv hyl rfl _ eτ
      refine wpAny_passesOwn hp (wpAny_execs_cons (wpAny_If (ht pins _ _ _ S ys' bb J2 slot2 upd_same hCb _ _ fun tk2 => ?_)))
      have J3 : Inv X pins (τ.set i (some xv)) (upd H1 S (.lst ys')) { t1.setGen g gs' with heap := h2, toks := tk2 } := J2.tok tk2
      cases bb with
      | true =>
        rw [if_pos rfl]
        obtain ⟨u2, r2, rd2⟩ := inv_name J3 (p := p2) hjf kf slot2 hdf
        refine wpAny_execs_cons (wpAny_Return_some (rd2 _ _ ?_))
        exact ⟨.ref S, _, _, J3, r2, hstop rfl⟩
      | false =>
        rw [if_neg Bool.false_ne_true]
        refine wpAny_execs_nil ?_
        refine wpAny_execs_cons (wpAny_Expr_any ?_ hint hsw)
        obtain ⟨u2, r2, rd2⟩ := inv_name J3 (p := p5) hjf kf slot2 hdf
        obtain rfl : u2 = Value.ref S := r2
        obtain ⟨its2, nL2, rvS2, eS2⟩ := lstS J3
        refine wpAny_Call_method_late hbase hfew hline rfl (rd2 _ _ ?_)
        refine ⟨"list", "list.append", PySem.F.plainAttrs_list, PySem.F.slot_list_append, PySem.F.type_list_append, ⟨_, eS2, rfl⟩, fun b hb => ⟨_, by cases hb; exact eS2, rfl⟩, ?_⟩
        have sx : (τ.set i (some xv))[i]? = some (some xv) := List.getElem?_set_self (by rw [← List.length_set, J2.len]; exact (List.getElem?_eq_some_iff.mp hi).1)
        obtain ⟨u3, r3, rd3⟩ := inv_name J3 (p := p7) hi kx sx hdx
        refine Calls.callWith_builtin (by rfl) (Calls.evalArgs_plain ?_)
        refine Calls.spliced_cons (rd3 _ _ (Calls.spliced_nil ?_))
        have l2 := rvS2.length
        have l3 := hlt ys' xv hyl
        refine call_meets PySem.F.slot_list_append ⟨_, eS2, rfl⟩ PySem.F.entry_list_append (PySem.F.args_list_append_2 _ _) (PySem.list_append S its2.toArray nL2 u3 (by rw [List.size_toArray]; omega)) ⟨eS2, ?_⟩
        have J4 := J3.lset (t' := tk2) (f := fun z => z.push u3) (its' := its2 ++ [u3]) (ys := ys' ++ [xv]) upd_same eS2 (by simp) (rvS2.append (.cons r3 .nil)) (by rw [List.length_append, List.length_singleton]; omega)
        rw [upd_upd] at J4
        have aS : a ≠ S := fun q => Nat.lt_irrefl _ (Nat.lt_of_lt_of_le (Heap.lt_size (Hd [] S _ upd_same).choose_spec) (q ▸ ha1))
        have aL : a ≠ X.env.locals := fun q => Nat.lt_irrefl _ (Nat.lt_of_lt_of_le szL (q ▸ ha1))
        have kp3 : ∀ b o, b ≠ S → b ≠ X.env.locals → t1.heap.get? b = some o → (h2.update S (Obj.mapSeq fun z => z.push u3)).get? b = some o := fun b o b1 b2 z =>
          (Heap.get?_update_other _ _ (Ne.symm b1)).trans ((hs2.2 b b2).trans z)
        refine wpAny_execs_nil ⟨m, Nat.lt_succ_self m, ys' ++ [xv], _, gs', by rw [List.length_append, List.length_singleton]; omega, J4, .inr ⟨xv, eτ⟩, ?_, setGen_at hsz1, ?_⟩
        · exact ⟨og, nmg, qng, kp3 a og aS aL eog, hcg, hdg, hsg⟩
        · refine wk _ u3 r3 ⟨allBare_setGen J4.bare rfl, ?_, fun b o b1 b2 z => kp3 b o b1 b2 z, fun acc cc z => ?_, frmL (inv_gens (gs := .running) (g := g) J4 rfl)⟩
          · exact rfl
          · have z2 : h2.get? S = some (lstObj acc cc) := (hs2.2 S nSL).trans z
            exact ⟨_, PySem.IsL.update z2 fun w => w.push u3⟩
    · intro _
      obtain ⟨ys', Hb, G1, Wq, os', bare', un, hok', eg, hQ⟩ := hf
      obtain rfl := same Wq
      obtain ⟨_, J⟩ := inv_ran It1 B (Hd ys') (Ge ys') c (⟨os', allBare_setGen bare' rfl, un, hok', eg⟩ : Ran X sc.heap G Hb G1 (t.setGen g .running) (t1.setGen g .finished)) fun b o z n1 => Wq.old b o z n1
      have J' := J.kept (h' := h') (t' := t1.toks) hk
      refine wpAny_execs_nil ⟨τ, _, J', hfin ys' G1 τ hQ (fun b o z n1 => ?_) hτ⟩
      obtain ⟨ob, eb⟩ := obj_of (I1.hok b o z)
      obtain ⟨ob2, eb2⟩ := Wq.thr b ob eb
      exact un.free b ob2 ((headN_lt ⟨ob, eb⟩).trans eb2) (Wq.old b ob eb n1) noEx
    · obtain ⟨cx, ig⟩ := her
      rcases herr with hno | ⟨hny, hE⟩
      · rcases cx with ⟨_, _, _, cls, d, _, _, _, _, _, _, _, z⟩ | ⟨_, _, _, _, _, _, cls, d, _, _, _, _, _, _, _, z⟩
        · exact (hno _ _ _ z).elim
        · exact (hno _ _ _ z).elim
      · rcases cx with cx | ⟨⟨zs, y, G', _, z⟩, _⟩
        · have cx' : L2.CX X.prog X.w X.stack H1 sc (WE W σ) er t1 := cx_frame e c I1.hok e0.frf cx hE
          have kin : X.K.In t1.heap := by
            obtain ⟨_, B', _, _, _, _, fl, _, ub, _⟩ := id cx'
            refine I1.ok.mod.kin.keeps fun b o eb => fl.1 b o (ub.keep b o (I1.bs b o eb).1 (I1.bs b o eb).2 fun hm2 => ?_)
            have := (e0.funs.mem hm2).1
            rw [eb] at this
            cases this
          refine ⟨ig, notStop_of (hns σ) kin cx', fun _ => ?_⟩
          obtain ⟨a5, B5, G5, cls, d, z1, fl, z2, ub, z3, z4, z5, z6⟩ := cx'
          exact passAt tk σ pins H1 sc er _ I1 ⟨a5, B5, G5, cls, d, z1, fl, z2, ub, z3, z4, allBare_setGen z5 rfl, z6⟩
        · exact (hny _ _ z).elim
  · refine ⟨[], σ, .fresh cd, rfl, ?_, .inl rfl, isg, hgs, rfl, ?_⟩
    · rw [upd_eta hlst]
      exact Ia
    · refine wake X.A.in1 S X.env.locals (s1.setGen g .running) room1 I1.ok.frames far gS gL (frmL (inv_gens (gs := .running) (g := g) Ia rfl)) (fun b o z => z) ?_ os1 (allBare_setGen bare1 rfl)
      obtain ⟨its, nL, rvS, eS⟩ := lstS (ys := []) (τ := σ) (t := s1) (by rw [upd_eta hlst]; exact Ia)
      cases rvS
      exact ⟨nL, eS⟩
end
end Eyes

set_option Elab.async false
set_option linter.all false
set_option maxRecDepth 100000
set_option maxHeartbeats 4000000
/-! A call within a comprehension whose items may raise; a dict of the top. -/
namespace Eyes
open PySem PySem.Spec PyProof.Rows L2
section
variable {X : Cx} {x : Str} {st : Stmt} {ps : List Str} {sp : Sp} {e : Expr} {es : List Expr} {p pos : Pos} {t : TA} {Ew : XK}
end
section
variable {X : Cx} {x : Str} {st : Stmt} {ps : List Str} {sp : Sp} {kws : List Keyword} {p pos : Pos} {tk : TA} {W : WX}
def tCallNX (m : Nat) (sp : Sp) (gV : List V → List V) (W : WX) (tk : TA) : TE := fun σ H Q => tk σ H fun zs H2 => zs.length = m ∧ sp (gV zs) H2 Q (WE W σ)
end
end Eyes

set_option Elab.async false
set_option linter.all false
set_option maxRecDepth 100000
set_option maxHeartbeats 4000000
/-! sorted of ascending tuples, list.count of data, len of a set of numbers, list(g(k = e)). -/
namespace Eyes
open PySem PySem.Spec PyProof.Rows L2 GenW
section
variable {prog : Program} {w : World} {A : Around} {E : Value → Shared → Prop} {s : Shared}
theorem tups_sortO {a : Addr} {vs : List Value} {d : Nat} {B : Int} (hd : 1 ≤ d) (h2 : 2 ≤ vs.length) (x : TS.TupsOk s.heap d B vs) (ha : ∀ o, s.heap.get? a = some o → o.cls ≠ .type "tuple") :
    SrtO.SortableO prog w A s a vs (fun u v => decide (TS.code B (TS.intsOf s.heap u) < TS.code B (TS.intsOf s.heap v))) := by
  intro h' keep
  have x' : TS.TupsOk h' d B vs := x.keeps fun b o e hc => keep b o (fun z => by subst z; exact ha o e hc) e
  have at_ : ∀ v ∈ vs, ∃ ns, TS.TupInts h' v ns ∧ ns.length = d ∧ TS.Bd B ns ∧ TS.intsOf s.heap v = ns := fun v hv => by
    obtain ⟨ns, t, l, b⟩ := x v hv
    exact ⟨ns, t.keeps fun b o e hc => keep b o (fun z => by subst z; exact ha o e hc) e, l, b, t.ints⟩
  obtain ⟨fs, k, hl, hi⟩ := TS.firsts_of hd vs x'
  refine ⟨_, fun Q E hq => PySem.W.kat_kind (s := { s with heap := h' }) (T := Value.type "int") k (by omega) (fun f hf => ?_) rfl hq, fun p q hp hq => ?_⟩
  · obtain ⟨n, t, rfl⟩ := hi f hf
    exact PySem.W.Looks.of_pure rfl
  · obtain ⟨ns, ⟨a1, xs, e1, ⟨o, ho, hc, n, hdt⟩, i1⟩, lp, bp, ep⟩ := at_ _ hp
    obtain ⟨ms, ⟨a2, ys, e2, ⟨o', ho', hc', n', hdt'⟩, i2⟩, lq, bq, eq2⟩ := at_ _ hq
    show wpAny _ _ _ (fun r s' => s' = _ ∧ r = decide (TS.code B (TS.intsOf s.heap p.1) < TS.code B (TS.intsOf s.heap q.1))) _ _
    rw [ep, eq2, e1, e2]
    refine PySem.W.kat_lt ho hdt ho' hdt' ?_
    have sz : decide (xs.size < ys.size) = false := by
      have l1 := i1.length
      have l2 := i2.length
      rw [Array.length_toList] at l1 l2
      exact decide_eq_false (by omega)
    rw [sz]
    exact TS.lex_ints 0 i1 i2 (by omega) bp bq ⟨rfl, rfl⟩
theorem perm_asc {α : Type} {f : α → Int} : ∀ {l m : List α}, l.Perm m → l.Pairwise (fun a b => f a ≤ f b) → m.Pairwise (fun a b => f a < f b) → l = m
  | [], m, p, _, _ => by rw [p.nil_eq]
  | x :: l, [], p, _, _ => absurd p.length_eq (by simp)
  | x :: l, y :: m, p, h1, h2 => by
    rw [List.pairwise_cons] at h1 h2
    have hx : x ∈ y :: m := p.mem_iff.mp List.mem_cons_self
    have hy : y ∈ x :: l := p.mem_iff.mpr List.mem_cons_self
    have e : x = y := by
      rcases List.mem_cons.mp hx with a | a
      · exact a
      · rcases List.mem_cons.mp hy with b | b
        · exact b.symm
        · have q1 := h1.1 y b
          have q2 := h2.1 x a
          omega
    subst e
    rw [perm_asc (List.Perm.cons_inv p) h1.2 h2.2]
end
def rSortAsc (K : PySem.W.Frag) : List V → Hp → VK → Prop := fun vs H Q => ∃ (a : Addr) (us : List V) (f : V → List Int) (d : Nat) (B : Int), vs = [V.ref a] ∧ SqL K H a us ∧ 1 ≤ d ∧ (∀ u ∈ us, ∃ t, u = V.ref t ∧ H t = some (.tup ((f u).map V.int)) ∧ (f u).length = d ∧ TS.Bd B (f u)) ∧
  us.Pairwise (fun u v => TS.code B (f u) < TS.code B (f v)) ∧ ∀ p, H p = none → Q (.ref p) (upd H p (.lst us))
section
variable {X : Cx}
theorem cr_sortAsc : CallR X (.builtin "sorted") (rSortAsc X.K) := by
  intro pins s σ H vs us0 Q I r h
  obtain ⟨a, us, f, d, B, rfl, hs, h1, hu, hp, q⟩ := h
  obtain ⟨its, rv, hl, hz⟩ := I.list hs
  rw [Vals.ref1 r]
  have len := rv.length
  have back := refs_back rv fun x hx => by
    obtain ⟨t, e, _⟩ := hu x hx
    exact ⟨t, e⟩
  obtain ⟨e1, e2⟩ := back
  have tup : ∀ v ∈ its, TS.TupInts s.heap v (f (backV v)) ∧ (f (backV v)).length = d ∧ TS.Bd B (f (backV v)) := fun v hv => by
    obtain ⟨t, rfl⟩ := e2 v hv
    have hm : V.ref t ∈ us := by rw [e1]; exact List.mem_map.mpr ⟨_, hv, rfl⟩
    obtain ⟨t', e, ht, hd, hb⟩ := hu _ hm
    cases e
    obtain ⟨_, its2, r2, ht2⟩ := I.hok _ _ ht
    have hi : IntsAre its2 (f (backV (.ref t))) := r2.ints
    exact ⟨⟨t, its2.toArray, rfl, ht2, by simpa using hi⟩, hd, hb⟩
  have ok : TS.TupsOk s.heap d B its := fun v hv => ⟨_, tup v hv⟩
  have code : ∀ v ∈ its, TS.intsOf s.heap v = f (backV v) := fun v hv => (tup v hv).1.ints
  have O : SrtO.Swo (fun u v : Value => decide (TS.code B (TS.intsOf s.heap u) < TS.code B (TS.intsOf s.heap v))) := by
    refine ⟨fun x y h => ?_, fun x y z h1 h2 => ?_⟩
    · have a := of_decide_eq_true h
      exact decide_eq_false (by omega)
    · have a := of_decide_eq_false h1
      have b := of_decide_eq_false h2
      exact decide_eq_false (by omega)
  refine SrtO.sorted_ord O hl.isList (by rw [← len]; exact hz) (fun g2 h₁ a' ha kk => ?_) fun out s1 s2 => ?_
  · have z := tups_sortO (prog := X.prog) (w := X.w) (A := X.A.in1.in1) (s := { s with heap := h₁ }) (a := a') h1 g2 (ok.keeps fun b o e _ => (kk b o e).2) fun o e c => by
      have e' : some o = some (seqObj "list" its.toArray 0) := e.symm.trans ha
      cases e'
      exact absurd (Value.type.inj c) (by decide)
    have same : ∀ v ∈ its, TS.intsOf h₁ v = TS.intsOf s.heap v := fun v hv => by
      rw [code v hv]
      exact ((tup v hv).1.keeps fun b o e _ => (kk b o e).2).ints
    intro h' keep
    obtain ⟨κ, k1, k2⟩ := z h' keep
    refine ⟨κ, k1, fun p q hp hq => wpAny_mono (k2 p q hp hq) (fun r s' ⟨z1, z2⟩ => ⟨z1, ?_⟩) fun _ _ z => z⟩
    rw [z2]
    show decide (TS.code B (TS.intsOf h₁ p.1) < TS.code B (TS.intsOf h₁ q.1)) = decide (TS.code B (TS.intsOf s.heap p.1) < TS.code B (TS.intsOf s.heap q.1))
    rw [same _ hp, same _ hq]
  · have eo : out = its := by
      refine perm_asc (f := fun v => TS.code B (TS.intsOf s.heap v)) s2.perm (s1.imp fun {u v} h => ?_) ?_
      · have := of_decide_eq_false h
        show TS.code B (TS.intsOf s.heap u) ≤ TS.code B (TS.intsOf s.heap v)
        omega
      · rw [e1, List.pairwise_map] at hp
        refine List.Pairwise.imp_of_mem (fun {u v} hu hv h => ?_) hp
        show TS.code B (TS.intsOf s.heap u) < TS.code B (TS.intsOf s.heap v)
        rw [code u hu, code v hv]
        exact h
    subst eo
    obtain ⟨ep, he'⟩ := PyProof.Rows.sortedAll_at s.heap out out.toArray
    exact ⟨.ref _, upd H (s.heap.objs.size + 1) (.lst us), I.laid (t' := s.toks) (fun _ _ => PyProof.Rows.sortedAll_old) (Nat.le_succ _) ⟨hz, out, ep, rv, he'⟩, rfl, q _ (I.hok.fresh (Nat.le_succ _))⟩
def rCountD (K : PySem.W.Frag) : V → List V → Hp → VK → Prop := fun x xs H Q => ∃ (a : Addr) (y : V) (d : PyData) (ds : List PyData), x = V.ref a ∧ xs = [y] ∧ Dp K H (V.ref a) (.list ds) ∧ Dp K H y d ∧
  SeqAt.shaped (.list ds) = true ∧ SeqAt.shaped d = true ∧ Q (.int (ds.countP fun z => PyData.eqv z d : Nat)) H
theorem mt_countD (hu : X.A.units + 65 < cLine) : MtR X "list.count" (rCountD X.K) := by
  intro pins s σ H x xs v us Q I rx rxs h
  obtain ⟨a, y, d, ds, rfl, rfl, hl, hy, sl, sd, q⟩ := h
  cases rx
  obtain ⟨uy, rfl, ry⟩ := rxs.one
  obtain ⟨bs, r1⟩ := Dp.reads I d y uy hy ry
  have hxs : PyData.canLayAll0 ds = true := SeqAt.canLay_of_shaped sl
  have room : X.A.units + 1 + min (PyData.depthAll ds) d.depth < cLine := room_in_shaped sd hu
  cases hl with
  | lst hs ha =>
    obtain ⟨its, rv, ⟨⟨cls, dd, data, sls⟩, n, ho, hc, hdn, hdt⟩, hlen⟩ := I.list hs
    simp only at hc hdt
    subst hc hdt
    obtain ⟨as, h4⟩ := Dp.readsAll I ds _ its ha rv
    have hmap : its.map (SeqAt.readOf s.heap) = ds := SeqAt.readsAll_map ds its as hxs h4
    refine call_meets PySem.F.slot_list_count ⟨_, ho, rfl⟩ PySem.F.entry_list_count (PySem.F.args_list_count_2 _ _)
      (SeqAt.list_countAt a its.toArray n dd sls uy (fun u => PyData.eqv (SeqAt.readOf s.heap u) d)) ⟨ho, SeqAt.items_eqAt (vs := its.toArray) (show ReadsAll s.heap its.toArray.toList ds as from h4) r1 hxs (SeqAt.canLay_of_shaped sd) room, ?_⟩
    refine ⟨.int (ds.countP fun z => PyData.eqv z d : Nat), H, I.tok _, ⟨s.toks, ?_⟩, q⟩
    rw [← hmap, List.countP_map]
    rfl
def rLenSO (w : World) : List V → Hp → VK → Prop := fun vs H Q => ∃ (a : Addr) (S : Int → Bool) (n : Nat), vs = [V.ref a] ∧ H a = some (SetO w a S n) ∧ ((∀ L : List Int, L.Nodup → (∀ k, k ∈ L ↔ S k = true) → n = L.length) → Q (.int (n : Nat)) H)
theorem cr_lenSO {w : World} (hw : X.w = w) : CallR X (.builtin "len") (rLenSO w) := by
  subst hw
  intro pins s σ H vs us Q I r h
  obtain ⟨a, S, n, rfl, ha, q⟩ := h
  rw [Vals.ref1 r]
  obtain ⟨o, es, ep, t, ho, hex, hd, g, nd, hm, hb, hf, hn, hr⟩ := setO_get I ha
  have sb : scanBound = 4096 := rfl
  refine call_len_set ho hex hd hf (by omega) ⟨.int (n : Nat), H, I.tok _, ⟨_, by rw [hn]⟩, q fun L hL hk => ?_⟩
  have p : (es.toList.map keyOf).Perm L := by
    rw [List.perm_ext_iff_of_nodup nd hL]
    exact fun k => by rw [← hm k, hk k]
  have := p.length_eq
  rw [List.length_map, Array.length_toList, hn] at this
  exact this
end
section
variable {X : Cx} {k j : Nat} {x : Str} {st : Stmt} {ps : List Str} {sp : SpG} {p pos : Pos} {kws : List Keyword} {tk : TA} {f : Addr} {fd : FuncData}
def tCallGN (m : Nat) (sp : SpG) (gV : List V → List V) (E : XK) (tk : TA) : TGen := fun σ H cont => tk σ H fun zs H2 => zs.length = m ∧ sp (gV zs) H2 cont E
theorem pgen_kw {E : XK} {ks : List Str} {is : List Nat} (hm : X.mg x = some (.ref f)) (F0 : Fun X.K x x st f fd) (F : GFn X.prog X.w X.K X.mg X.base j f fd ps sp) (hk : KwOk x st ps 0 ks is) (hr : Room j X.A) (hkw : PK X kws tk) (hg : Gl X x := by rfl)
    (hall : (backToKw pos (keywordEach kws X.env)).all (·.1.isSome) = true := by rfl) (hks : (backToKw pos (keywordEach kws X.env)).filterMap (·.1) = ks := by rfl)
    (hdb : (x == ("__debug__" : Str)) = false := by decide)
    (hpl : ((backTo pos (starEach [] X.env)).any (·.1) || (backToKw pos (keywordEach kws X.env)).any (·.1.isNone)) = false := by rfl) :
    PGen X j (.Call (.Name x p) [] kws pos) (tCallGN ks.length sp (fun zs => pick is zs) E tk) E := by
  refine ⟨fun pins s σ H cont I h => wpAny_Call_Name_kw (ld_glob I hg hm ?_ hdb)⟩
  refine PySem.W.callWith_KW0 (h₀ := X.base) I.ok.mod.kin F0.kp hall (thn (hkw.run pos pins s σ H _ I h) fun ws s2 ⟨zs, H2, I2, rz, l2, q2⟩ => ⟨I2.kIn, ?_⟩) hpl
  rw [hks]
  have kb := kbn (n := 0) F0 hk
  have r2 := kb.rel (us := []) (vs := []) .nil rz
  refine wpAny_call (codeAny_mono (F.run X.A X.stack s2 H2 ⟨[], ks.zip ws⟩ (pick is ([] ++ ws)) (pick is ([] ++ zs)) cont E hr I2.env0 (kb.to s2 [] ws I2.kIn rfl (rz.length.symm.trans l2)) r2 q2) fun r s' hq => ?_)
  cases r with
  | error e => exact hq.elim
  | ok fl =>
    cases fl with
    | ret u => exact ⟨H2, s2, [], I2, .nil, hq⟩
    | next => exact hq.elim
    | brk => exact hq.elim
    | cont => exact hq.elim
end
def PrG (P : Program) (w : World) (K : PySem.W.Frag) (mg : Str → Option Value) (base : Heap) (x : Str) (st : Stmt) (ps : List Str) (k : Nat) (sp : SpG) : Prop :=
  ∃ (f : Addr) (fd : FuncData), mg x = some (.ref f) ∧ Fun K x x st f fd ∧ Binds K fd ps [] ∧ GFn P w K mg base k f fd ps sp
section
variable {X : Cx} {k j : Nat} {x : Str} {st : Stmt} {ps : List Str} {sp : SpG} {e : Expr} {es : List Expr} {p p1 pos pos1 : Pos} {t : TA} {kws : List Keyword} {tk : TA}
theorem passes0 : Passes (L2.CX X.prog X.w) X (fun _ _ _ => False) := fun _ _ _ _ _ _ _ h => (noneX h).elim
theorem pe_listPrX {E : XK} {C : Addr} (G : PrG X.prog X.w X.K X.mg X.base x st ps j sp) (hr : Room k X.A) (hx : Takes X (fun cls d _ H => E cls d H)) (hC : PySem.W.subIn X.K (.ref C) (.type "StopIteration") = some false) (ha : PA X (e :: es) t) (hgl : Gl X "list") (hml : X.mg "list" = none) (hj : j + 3 ≤ k := by first | decide | omega) (hg : Gl X x := by rfl)
    (hdb : (x == ("__debug__" : Str)) = false := by decide) (he : starEach (e :: es) X.env = (false, eval e X.env) :: starEach es X.env := by rfl) (hpl : (backTo pos (starEach es X.env)).any (·.1) = false := by rfl)
    (hs : starEach [.Call (.Name x p) (e :: es) [] pos] X.env = (false, eval (.Call (.Name x p) (e :: es) [] pos) X.env) :: starEach [] X.env := by rfl) :
    PE X (.Call (.Name "list" p1) [.Call (.Name x p) (e :: es) [] pos] [] pos1) (tListG (tCallG sp [] (fun cls d H => cls = .ref C ∧ E cls d H) t)) := by
  obtain ⟨f, fd, hm, F0, hb, F⟩ := G
  have hx2 : Takes X (fun cls d _ H => cls = .ref C ∧ E cls d H) := hx.imp fun _ _ _ _ z => z.2
  refine pe_listG (k := j) (pgen_call F (hr.mono (by omega)) hg hm F0.kp hb .nil ha hdb he hpl) (fun pins σ H s er s' I c => passAt (W := fun cls d _ H => cls = .ref C ∧ E cls d H) hx2 σ pins H s er s' I c) (fun cls d H z => ?_) (hr.mono hj) hgl hml PyProof.Rows.boot_list (by decide) (by decide) hs
  rw [z.1]
  exact hC
theorem pe_listPr0 (G : PrG X.prog X.w X.K X.mg X.base x st ps j sp) (hr : Room k X.A) (ha : PA X (e :: es) t) (hgl : Gl X "list") (hml : X.mg "list" = none) (hj : j + 3 ≤ k := by first | decide | omega) (hg : Gl X x := by rfl)
    (hdb : (x == ("__debug__" : Str)) = false := by decide) (he : starEach (e :: es) X.env = (false, eval e X.env) :: starEach es X.env := by rfl) (hpl : (backTo pos (starEach es X.env)).any (·.1) = false := by rfl)
    (hs : starEach [.Call (.Name x p) (e :: es) [] pos] X.env = (false, eval (.Call (.Name x p) (e :: es) [] pos) X.env) :: starEach [] X.env := by rfl) :
    PE X (.Call (.Name "list" p1) [.Call (.Name x p) (e :: es) [] pos] [] pos1) (tListG (tCallG sp [] (fun _ _ _ => False) t)) := by
  obtain ⟨f, fd, hm, F0, hb, F⟩ := G
  exact pe_listG (k := j) (pgen_call F (hr.mono (by omega)) hg hm F0.kp hb .nil ha hdb he hpl) passes0 (fun _ _ _ z => z.elim) (hr.mono hj) hgl hml PyProof.Rows.boot_list (by decide) (by decide) hs
theorem pe_listKw0 {ks : List Str} {is : List Nat} (G : PrG X.prog X.w X.K X.mg X.base x st ps j sp) (hk : KwOk x st ps 0 ks is) (hr : Room k X.A) (hkw : PK X kws tk) (hgl : Gl X "list") (hml : X.mg "list" = none) (hj : j + 3 ≤ k := by first | decide | omega) (hg : Gl X x := by rfl)
    (hall : (backToKw pos (keywordEach kws X.env)).all (·.1.isSome) = true := by rfl) (hks : (backToKw pos (keywordEach kws X.env)).filterMap (·.1) = ks := by rfl) (hdb : (x == ("__debug__" : Str)) = false := by decide)
    (hpl : ((backTo pos (starEach [] X.env)).any (·.1) || (backToKw pos (keywordEach kws X.env)).any (·.1.isNone)) = false := by rfl)
    (hs : starEach [.Call (.Name x p) [] kws pos] X.env = (false, eval (.Call (.Name x p) [] kws pos) X.env) :: starEach [] X.env := by rfl) :
    PE X (.Call (.Name "list" p1) [.Call (.Name x p) [] kws pos] [] pos1) (tListG (tCallGN ks.length sp (fun zs => pick is zs) (fun _ _ _ => False) tk)) := by
  obtain ⟨f, fd, hm, F0, hb, F⟩ := G
  exact pe_listG (k := j) (pgen_kw hm F0 F hk (hr.mono (by omega)) hkw hg hall hks hdb hpl) passes0 (fun _ _ _ z => z.elim) (hr.mono hj) hgl hml PyProof.Rows.boot_list (by decide) (by decide) hs
end
end Eyes

set_option Elab.async false
set_option linter.all false
set_option maxRecDepth 100000
set_option maxHeartbeats 4000000
/-! ==, repr() and bool() of own instances; either of two rules. -/
namespace Eyes
open PySem PySem.Spec PyProof.Rows L2
def EqTo (K : PySem.W.Frag) (C : Addr) (H : Hp) (y : V) : Prop :=
  (∃ z, y = .str z ∧ PySem.W.notFirst K C (.type "str") = true) ∨ (∃ b zs, y = .ref b ∧ H b = some (.lst zs) ∧ PySem.W.notFirst K C (.type "list") = true) ∨ ∃ b dy gs, y = .ref b ∧ H b = some (.ins C dy gs)
def rEqOwn (K : PySem.W.Frag) (C : Addr) (sp : Sp) : R2 := fun x y H Q => ∃ a dx fs, x = .ref a ∧ H a = some (.ins C dx fs) ∧ EqTo K C H y ∧ sp [.ref a, y] H Q (fun _ _ _ => False)
def rReprOwn (C : Addr) (sp : Sp) : List V → Hp → VK → Prop := fun xs H Q => ∃ a dx fs, xs = [.ref a] ∧ H a = some (.ins C dx fs) ∧ sp [.ref a] H (fun v H' => ∃ z, v = .str z ∧ Q v H') (fun _ _ _ => False)
def rBoolOwn (K : PySem.W.Frag) (C : Addr) : List V → Hp → VK → Prop := fun xs H Q => ∃ a dx fs, xs = [.ref a] ∧ H a = some (.ins C dx fs) ∧ PySem.W.findIn K (.ref C) "__bool__" = some none ∧ PySem.W.findIn K (.ref C) "__len__" = some none ∧ Q (.bl true) H
section
variable {X : Cx} {C : Addr} {j k : Nat} {ps : List Str} {sp : Sp}
theorem pi_listK {K : PySem.W.Frag} (hK : X.K = K) {tg l : Expr} {tl : TE} (hl : PE X l tl) : PI X tg l (iList K tl) := hK ▸ pi_list hl
theorem pi_or {tg it : Expr} {w1 w2 : TI} (h1 : PI X tg it w1) (h2 : PI X tg it w2) : PI X tg it (fun σ H Q => w1 σ H Q ∨ w2 σ H Q) := by
  refine ⟨fun pins s σ H Q I h => ?_⟩
  rcases h with h | h
  · exact h1.run pins s σ H Q I h
  · exact h2.run pins s σ H Q I h
end
section
variable {X : Cx}
theorem call_len_seqK {K : PySem.W.Frag} (hK : X.K = K) : CallR X (.builtin "len") (fun xs H Q => ∃ p ys, xs = [V.ref p] ∧ (SqL K H p ys ∨ SqT K H p ys) ∧ Q (V.int (ys.length : Nat)) H) := hK ▸ call_len_seq
theorem call_isiK {K : PySem.W.Frag} (hK : X.K = K) : CallR X (.builtin "isinstance") (rIsi K) := hK ▸ call_isi
end
end Eyes

set_option Elab.async false
set_option linter.all false
set_option maxRecDepth 100000
/-! Partings: rows of numbers, for each case the least case alike to it. -/
namespace Eyes
open PySem PySem.Spec PyProof.Rows L2
def alone (n : Nat) : List Nat := (List.range n).map (· + 1)
def itm (p : List Nat) (x : Nat) : Nat := p.getD (x - 1) 0
def mrg1 (p : List Nat) (x y : Nat) : List Nat := p.map fun z => if z = max (itm p x) (itm p y) then min (itm p x) (itm p y) else z
def mrgs (p : List Nat) (l : List (Nat × Nat)) : List Nat := l.foldl (fun p xy => mrg1 p xy.1 xy.2) p
structure IsP (n : Nat) (p : List Nat) : Prop where
  len : p.length = n
  lo : ∀ x, 1 ≤ x → x ≤ n → 1 ≤ itm p x ∧ itm p x ≤ x
  rt : ∀ x, 1 ≤ x → x ≤ n → itm p (itm p x) = itm p x
theorem itm_get {p : List Nat} {x : Nat} (h1 : 1 ≤ x) (h2 : x ≤ p.length) : p[x - 1]? = some (itm p x) := by
  unfold itm
  rw [List.getD_eq_getElem?_getD, List.getElem?_eq_getElem (by omega)]
  rfl
theorem itm_alone {n x : Nat} (h1 : 1 ≤ x) (h2 : x ≤ n) : itm (alone n) x = x := by
  unfold itm alone
  rw [List.getD_eq_getElem?_getD, List.getElem?_map, List.getElem?_range (by omega)]
  show x - 1 + 1 = x
  omega
theorem alone_len {n : Nat} : (alone n).length = n := by
  unfold alone
  rw [List.length_map, List.length_range]
theorem isP_alone (n : Nat) : IsP n (alone n) := by
  refine ⟨alone_len, fun x h1 h2 => ?_, fun x h1 h2 => ?_⟩
  · rw [itm_alone h1 h2]
    omega
  · rw [itm_alone h1 h2, itm_alone h1 h2]
theorem itm_map {p : List Nat} {f : Nat → Nat} {x : Nat} (h1 : 1 ≤ x) (h2 : x ≤ p.length) : itm (p.map f) x = f (itm p x) := by
  have h := itm_get h1 h2
  unfold itm at h ⊢
  rw [List.getD_eq_getElem?_getD, List.getElem?_map, h]
  rfl
theorem itm_mrg1 {n : Nat} {p : List Nat} (h : IsP n p) (x y : Nat) {z : Nat} (h1 : 1 ≤ z) (h2 : z ≤ n) : itm (mrg1 p x y) z = if itm p z = max (itm p x) (itm p y) then min (itm p x) (itm p y) else itm p z :=
  itm_map h1 (by rw [h.len]; exact h2)
theorem isP_mrg1 {n : Nat} {p : List Nat} (h : IsP n p) {x y : Nat} (hx : 1 ≤ x ∧ x ≤ n) (hy : 1 ≤ y ∧ y ≤ n) : IsP n (mrg1 p x y) := by
  have ax := h.lo x hx.1 hx.2
  have ay := h.lo y hy.1 hy.2
  have rx := h.rt x hx.1 hx.2
  have ry := h.rt y hy.1 hy.2
  have key : ∀ z, 1 ≤ z → z ≤ n → itm (mrg1 p x y) z = if itm p z = max (itm p x) (itm p y) then min (itm p x) (itm p y) else itm p z := fun z h1 h2 => itm_mrg1 h x y h1 h2
  refine ⟨by unfold mrg1; rw [List.length_map]; exact h.len, fun z h1 h2 => ?_, fun z h1 h2 => ?_⟩
  · have az := h.lo z h1 h2
    rw [key z h1 h2]
    split
    · omega
    · exact az
  · have az := h.lo z h1 h2
    have rz := h.rt z h1 h2
    rw [key z h1 h2]
    by_cases g : itm p z = max (itm p x) (itm p y)
    · rw [if_pos g]
      have hm : itm p (min (itm p x) (itm p y)) = min (itm p x) (itm p y) := by
        rcases Nat.le_total (itm p x) (itm p y) with q | q
        · rw [Nat.min_eq_left q]
          exact rx
        · rw [Nat.min_eq_right q]
          exact ry
      rw [key _ (by omega) (by omega), hm]
      split
      · rfl
      · rfl
    · rw [if_neg g, key _ az.1 (by omega), rz, if_neg g]
theorem isP_mrgs {n : Nat} : ∀ {l : List (Nat × Nat)} {p : List Nat}, IsP n p → (∀ xy ∈ l, (1 ≤ xy.1 ∧ xy.1 ≤ n) ∧ 1 ≤ xy.2 ∧ xy.2 ≤ n) → IsP n (mrgs p l)
  | [], p, h, _ => h
  | xy :: r, p, h, hl => isP_mrgs (l := r) (isP_mrg1 h (hl xy List.mem_cons_self).1 (hl xy List.mem_cons_self).2) fun z hz => hl z (List.mem_cons_of_mem _ hz)
theorem mrgs_snoc (p : List Nat) (l : List (Nat × Nat)) (xy : Nat × Nat) : mrgs p (l ++ [xy]) = mrg1 (mrgs p l) xy.1 xy.2 := by
  unfold mrgs
  rw [List.foldl_append]
  rfl
/-! ### what is alike -/
def ali (p : List Nat) (x y : Nat) : Prop := itm p x = itm p y
theorem isP_ext {n : Nat} {p q : List Nat} (hp : IsP n p) (hq : IsP n q) (h : ∀ x y, 1 ≤ x → x ≤ n → 1 ≤ y → y ≤ n → (ali p x y ↔ ali q x y)) : p = q := by
  have low : ∀ {p q : List Nat}, IsP n p → IsP n q → (∀ x y, 1 ≤ x → x ≤ n → 1 ≤ y → y ≤ n → ali p x y → ali q x y) → ∀ x, 1 ≤ x → x ≤ n → itm q x ≤ itm p x := fun {p q} hp hq h x h1 h2 => by
    have a := hp.lo x h1 h2
    have e := h (itm p x) x a.1 (by omega) h1 h2 (hp.rt x h1 h2)
    have b := hq.lo (itm p x) a.1 (by omega)
    have e : itm q (itm p x) = itm q x := e
    omega
  refine List.ext_getElem? fun i => ?_
  by_cases hi : i < n
  · have h1 := itm_get (p := p) (x := i + 1) (by omega) (by rw [hp.len]; omega)
    have h2 := itm_get (p := q) (x := i + 1) (by omega) (by rw [hq.len]; omega)
    rw [Nat.add_sub_cancel] at h1 h2
    rw [h1, h2]
    have a := low hp hq (fun x y a b c d => (h x y a b c d).1) (i + 1) (by omega) (by omega)
    have b := low hq hp (fun x y a b c d => (h x y a b c d).2) (i + 1) (by omega) (by omega)
    congr 1
    omega
  · rw [List.getElem?_eq_none (by rw [hp.len]; omega), List.getElem?_eq_none (by rw [hq.len]; omega)]
theorem mrg1_keeps {n : Nat} {p : List Nat} (h : IsP n p) {x y a b : Nat} (ha : 1 ≤ a ∧ a ≤ n) (hb : 1 ≤ b ∧ b ≤ n) (e : ali p a b) : ali (mrg1 p x y) a b := by
  unfold ali at e ⊢
  rw [itm_mrg1 h x y ha.1 ha.2, itm_mrg1 h x y hb.1 hb.2, e]
theorem mrg1_joins {n : Nat} {p : List Nat} (h : IsP n p) {x y : Nat} (hx : 1 ≤ x ∧ x ≤ n) (hy : 1 ≤ y ∧ y ≤ n) : ali (mrg1 p x y) x y := by
  unfold ali
  rw [itm_mrg1 h x y hx.1 hx.2, itm_mrg1 h x y hy.1 hy.2]
  split <;> split <;> omega
theorem mrg1_least {n : Nat} {p : List Nat} (h : IsP n p) {x y a b : Nat} (hx : 1 ≤ x ∧ x ≤ n) (hy : 1 ≤ y ∧ y ≤ n) (ha : 1 ≤ a ∧ a ≤ n) (hb : 1 ≤ b ∧ b ≤ n) {f : Nat → Nat} (hf : ∀ u v, 1 ≤ u → u ≤ n → 1 ≤ v → v ≤ n → ali p u v → f u = f v) (hxy : f x = f y) (e : ali (mrg1 p x y) a b) : f a = f b := by
  unfold ali at e
  have up : ∀ u, 1 ≤ u ∧ u ≤ n → f (itm p u) = f u := fun u hu => hf _ _ (h.lo u hu.1 hu.2).1 (by have := h.lo u hu.1 hu.2; omega) hu.1 hu.2 (h.rt u hu.1 hu.2)
  have fx := up x hx
  have fy := up y hy
  have fa := up a ha
  have fb := up b hb
  have two : f (max (itm p x) (itm p y)) = f (min (itm p x) (itm p y)) := by
    rcases Nat.le_total (itm p x) (itm p y) with q | q
    · rw [Nat.max_eq_right q, Nat.min_eq_left q, fx, fy, hxy]
    · rw [Nat.max_eq_left q, Nat.min_eq_right q, fx, fy, hxy]
  rw [itm_mrg1 h x y ha.1 ha.2, itm_mrg1 h x y hb.1 hb.2] at e
  rw [← fa, ← fb]
  split at e <;> split at e
  · rename_i g1 g2
    rw [g1, g2]
  · rename_i g1 g2
    rw [g1, two, e]
  · rename_i g1 g2
    rw [g2, two, ← e]
  · rw [e]
theorem mrgs_keeps {n : Nat} : ∀ {l : List (Nat × Nat)} {p : List Nat}, IsP n p → (∀ xy ∈ l, (1 ≤ xy.1 ∧ xy.1 ≤ n) ∧ 1 ≤ xy.2 ∧ xy.2 ≤ n) → ∀ {a b : Nat}, (1 ≤ a ∧ a ≤ n) → (1 ≤ b ∧ b ≤ n) → ali p a b → ali (mrgs p l) a b
  | [], p, h, _, a, b, _, _, e => e
  | xy :: r, p, h, hl, a, b, ha, hb, e => mrgs_keeps (l := r) (isP_mrg1 h (hl xy List.mem_cons_self).1 (hl xy List.mem_cons_self).2) (fun z hz => hl z (List.mem_cons_of_mem _ hz)) ha hb (mrg1_keeps h ha hb e)
theorem mrgs_joins {n : Nat} : ∀ {l : List (Nat × Nat)} {p : List Nat}, IsP n p → (∀ xy ∈ l, (1 ≤ xy.1 ∧ xy.1 ≤ n) ∧ 1 ≤ xy.2 ∧ xy.2 ≤ n) → ∀ {xy : Nat × Nat}, xy ∈ l → ali (mrgs p l) xy.1 xy.2
  | z :: r, p, h, hl, xy, hm => by
    have hz := hl z List.mem_cons_self
    have hr : ∀ w ∈ r, (1 ≤ w.1 ∧ w.1 ≤ n) ∧ 1 ≤ w.2 ∧ w.2 ≤ n := fun w hw => hl w (List.mem_cons_of_mem _ hw)
    rcases List.mem_cons.mp hm with rfl | hm
    · exact mrgs_keeps (l := r) (isP_mrg1 h hz.1 hz.2) hr hz.1 hz.2 (mrg1_joins h hz.1 hz.2)
    · exact mrgs_joins (l := r) (isP_mrg1 h hz.1 hz.2) hr hm
theorem mrgs_least {n : Nat} {f : Nat → Nat} : ∀ {l : List (Nat × Nat)} {p : List Nat}, IsP n p → (∀ xy ∈ l, (1 ≤ xy.1 ∧ xy.1 ≤ n) ∧ 1 ≤ xy.2 ∧ xy.2 ≤ n) → (∀ u v, 1 ≤ u → u ≤ n → 1 ≤ v → v ≤ n → ali p u v → f u = f v) → (∀ xy ∈ l, f xy.1 = f xy.2) → ∀ {a b : Nat}, (1 ≤ a ∧ a ≤ n) → (1 ≤ b ∧ b ≤ n) → ali (mrgs p l) a b → f a = f b
  | [], p, h, _, hf, _, a, b, ha, hb, e => hf a b ha.1 ha.2 hb.1 hb.2 e
  | z :: r, p, h, hl, hf, hg, a, b, ha, hb, e => by
    have hz := hl z List.mem_cons_self
    refine mrgs_least (l := r) (isP_mrg1 h hz.1 hz.2) (fun w hw => hl w (List.mem_cons_of_mem _ hw)) (fun u v h1 h2 h3 h4 e2 => ?_) (fun w hw => hg w (List.mem_cons_of_mem _ hw)) ha hb e
    exact mrg1_least h hz.1 hz.2 ⟨h1, h2⟩ ⟨h3, h4⟩ hf (hg z List.mem_cons_self) e2
theorem mrgs_same {n : Nat} {l k : List (Nat × Nat)} {p q : List Nat} (hp : IsP n p) (hq : IsP n q) (hl : ∀ xy ∈ l, (1 ≤ xy.1 ∧ xy.1 ≤ n) ∧ 1 ≤ xy.2 ∧ xy.2 ≤ n) (hk : ∀ xy ∈ k, (1 ≤ xy.1 ∧ xy.1 ≤ n) ∧ 1 ≤ xy.2 ∧ xy.2 ≤ n)
    (a1 : ∀ u v, 1 ≤ u → u ≤ n → 1 ≤ v → v ≤ n → ali p u v → ali (mrgs q k) u v) (a2 : ∀ xy ∈ l, ali (mrgs q k) xy.1 xy.2) (b1 : ∀ u v, 1 ≤ u → u ≤ n → 1 ≤ v → v ≤ n → ali q u v → ali (mrgs p l) u v) (b2 : ∀ xy ∈ k, ali (mrgs p l) xy.1 xy.2) : mrgs p l = mrgs q k :=
  isP_ext (isP_mrgs hp hl) (isP_mrgs hq hk) fun x y h1 h2 h3 h4 =>
    ⟨fun e => mrgs_least (f := itm (mrgs q k)) hp hl a1 a2 ⟨h1, h2⟩ ⟨h3, h4⟩ e, fun e => mrgs_least (f := itm (mrgs p l)) hq hk b1 b2 ⟨h1, h2⟩ ⟨h3, h4⟩ e⟩
/-! ### roads to the least cases -/
structure Lead (n : Nat) (p L : List Nat) : Prop where
  len : L.length = n + 1
  le : ∀ i, i ≤ n → L.getD i 0 ≤ i
  to : ∀ i, 1 ≤ i → i ≤ n → 1 ≤ L.getD i 0 ∧ itm p (L.getD i 0) = itm p i
  end_ : ∀ i, 1 ≤ i → i ≤ n → L.getD i 0 = i → itm p i = i
theorem getD_set {L : List Nat} {e v i : Nat} (h : e < L.length) : (L.set e v).getD i 0 = if i = e then v else L.getD i 0 := by
  rw [List.getD_eq_getElem?_getD, List.getElem?_set, List.getD_eq_getElem?_getD]
  by_cases g : i = e
  · subst g
    rw [if_pos rfl, if_pos rfl, if_pos h]
    rfl
  · rw [if_neg (fun z => g z.symm), if_neg g]
theorem lead_new (n : Nat) : Lead n (alone n) (List.range (n + 1)) := by
  have g : ∀ i, i ≤ n → (List.range (n + 1)).getD i 0 = i := fun i hi => by
    rw [List.getD_eq_getElem?_getD, List.getElem?_range (by omega)]
    rfl
  refine ⟨List.length_range, fun i hi => ?_, fun i h1 h2 => ?_, fun i h1 h2 _ => itm_alone h1 h2⟩
  · rw [g i hi]
    exact Nat.le_refl _
  · rw [g i h2]
    exact ⟨h1, rfl⟩
theorem Lead.half {n : Nat} {p L : List Nat} (h : Lead n p L) {e : Nat} (h1 : 1 ≤ e) (h2 : e ≤ n) : Lead n p (L.set e (L.getD (L.getD e 0) 0)) := by
  have a := h.to e h1 h2
  have b := h.le e h2
  have c := h.to (L.getD e 0) a.1 (by omega)
  have d := h.le (L.getD e 0) (by omega)
  have hl : e < L.length := by rw [h.len]; omega
  refine ⟨by rw [List.length_set]; exact h.len, fun i hi => ?_, fun i g1 g2 => ?_, fun i g1 g2 => ?_⟩
  · rw [getD_set hl]
    split
    · omega
    · exact h.le i hi
  · rw [getD_set hl]
    split
    · rename_i g
      subst g
      exact ⟨c.1, c.2.trans a.2⟩
    · exact h.to i g1 g2
  · rw [getD_set hl]
    split
    · rename_i g
      subst g
      intro z
      exact h.end_ i g1 g2 (by omega)
    · exact h.end_ i g1 g2
theorem Lead.join {n : Nat} {p L : List Nat} (h : Lead n p L) (hp : IsP n p) {x y r s : Nat} (hr : 1 ≤ r ∧ r ≤ n) (hs : 1 ≤ s ∧ s ≤ n) (er : itm p x = r) (es : itm p y = s) (rr : itm p r = r) (ss : itm p s = s) : Lead n (mrg1 p x y) (L.set (max r s) (min r s)) := by
  have hl : max r s < L.length := by rw [h.len]; omega
  have key : ∀ z, 1 ≤ z → z ≤ n → itm (mrg1 p x y) z = if itm p z = max r s then min r s else itm p z := fun z h1 h2 => by
    rw [itm_mrg1 hp x y h1 h2, er, es]
  have em : itm p (max r s) = max r s := by
    rcases Nat.le_total r s with q | q
    · rw [Nat.max_eq_right q]; exact ss
    · rw [Nat.max_eq_left q]; exact rr
  have en : itm p (min r s) = min r s := by
    rcases Nat.le_total r s with q | q
    · rw [Nat.min_eq_left q]; exact rr
    · rw [Nat.min_eq_right q]; exact ss
  refine ⟨by rw [List.length_set]; exact h.len, fun i hi => ?_, fun i g1 g2 => ?_, fun i g1 g2 => ?_⟩
  · rw [getD_set hl]
    split
    · omega
    · exact h.le i hi
  · rw [getD_set hl]
    split
    · rename_i g
      subst g
      refine ⟨by omega, ?_⟩
      rw [key _ (by omega) (by omega), key _ g1 g2, em, en, if_pos rfl]
      split <;> rfl
    · have a := h.to i g1 g2
      have b := h.le i g2
      refine ⟨a.1, ?_⟩
      rw [key _ a.1 (by omega), key _ g1 g2, a.2]
  · rw [getD_set hl]
    split
    · rename_i g
      subst g
      intro z
      rw [key _ g1 g2, em, if_pos rfl]
      exact z
    · intro z
      have e := h.end_ i g1 g2 z
      rename_i g
      rw [key _ g1 g2, e, if_neg g]
end Eyes

set_option Elab.async false
set_option linter.all false
set_option maxRecDepth 100000
/-! All partings, row by row: mathematics. -/
namespace Eyes
def asc (c : Nat) (r : List Nat) : List Nat := (List.range' 1 c).filter fun x => r.contains x
def nxtR (c : Nat) (r : List Nat) : List (List Nat) := (asc c (r ++ [c])).map fun x => r ++ [x]
def rowsN : Nat → List (List Nat)
  | 0 => [[]]
  | c + 1 => (rowsN c).flatMap (nxtR (c + 1))
theorem mem_asc {c x : Nat} {r : List Nat} : x ∈ asc c r ↔ 1 ≤ x ∧ x ≤ c ∧ x ∈ r := by
  unfold asc
  rw [List.mem_filter, List.mem_range'_1, List.contains_iff_mem]
  constructor
  · rintro ⟨⟨a, b⟩, d⟩
    exact ⟨a, by omega, d⟩
  · rintro ⟨a, b, d⟩
    exact ⟨⟨a, by omega⟩, d⟩
theorem asc_inc {c : Nat} {r : List Nat} : (asc c r).Pairwise (· < ·) := (List.pairwise_lt_range').filter _
theorem inc_one : ∀ {xs ys : List Int}, xs.Pairwise (· < ·) → ys.Pairwise (· < ·) → (∀ k, k ∈ xs ↔ k ∈ ys) → xs = ys
  | [], [], _, _, _ => rfl
  | [], y :: ys, _, _, h => absurd ((h y).mpr List.mem_cons_self) (by simp)
  | x :: xs, [], _, _, h => absurd ((h x).mp List.mem_cons_self) (by simp)
  | x :: xs, y :: ys, hx, hy, h => by
    rw [List.pairwise_cons] at hx hy
    have e : x = y := by
      rcases List.mem_cons.mp ((h x).mp List.mem_cons_self) with a | a
      · exact a
      · rcases List.mem_cons.mp ((h y).mpr List.mem_cons_self) with b | b
        · exact b.symm
        · have h1 := hy.1 x a
          have h2 := hx.1 y b
          omega
    subst e
    rw [inc_one hx.2 hy.2 fun k => ⟨fun a => ?_, fun a => ?_⟩]
    · rcases List.mem_cons.mp ((h k).mp (List.mem_cons_of_mem _ a)) with b | b
      · have := hx.1 k a
        omega
      · exact b
    · rcases List.mem_cons.mp ((h k).mpr (List.mem_cons_of_mem _ a)) with b | b
      · have := hy.1 k a
        omega
      · exact b
theorem asc_is {c : Nat} {r : List Nat} {ys : List Int} (hr : ∀ x ∈ r, 1 ≤ x ∧ x ≤ c) (h1 : ys.Pairwise (· < ·)) (h2 : ∀ y, y ∈ ys ↔ y ∈ r.map (fun x : Nat => (x : Int))) : ys = (asc c r).map fun x : Nat => (x : Int) := by
  refine inc_one h1 (List.pairwise_map.mpr (asc_inc.imp fun {a b} h => by omega)) fun k => ?_
  rw [h2 k, List.mem_map, List.mem_map]
  constructor
  · rintro ⟨x, hx, rfl⟩
    exact ⟨x, mem_asc.mpr ⟨(hr x hx).1, (hr x hx).2, hx⟩, rfl⟩
  · rintro ⟨x, hx, rfl⟩
    exact ⟨x, (mem_asc.mp hx).2.2, rfl⟩
theorem rowsN_ok : ∀ {c : Nat} {r : List Nat}, r ∈ rowsN c → r.length = c ∧ ∀ x ∈ r, 1 ≤ x ∧ x ≤ c
  | 0, r, h => by
    have e : r = [] := by simpa [rowsN] using h
    subst e
    exact ⟨rfl, fun x hx => by cases hx⟩
  | c + 1, r, h => by
    obtain ⟨q, hq, hr⟩ := List.mem_flatMap.mp h
    obtain ⟨x, hx, rfl⟩ := List.mem_map.mp hr
    obtain ⟨l, a⟩ := rowsN_ok hq
    refine ⟨by rw [List.length_append, l]; rfl, fun y hy => ?_⟩
    rcases List.mem_append.mp hy with hy | hy
    · have := a y hy
      omega
    · rw [List.mem_singleton.mp hy]
      have := mem_asc.mp hx
      omega
theorem asc_more {c : Nat} {r : List Nat} (hr : ∀ x ∈ r, 1 ≤ x ∧ x ≤ c) : asc (c + 1) (r ++ [c + 1]) = asc c r ++ [c + 1] := by
  unfold asc
  rw [List.range'_concat, List.filter_append]
  congr 1
  · refine List.filter_congr fun x hx => ?_
    have l := List.mem_range'_1.mp hx
    rw [Bool.eq_iff_iff, List.contains_iff_mem, List.contains_iff_mem, List.mem_append, List.mem_singleton]
    constructor
    · rintro (a | a)
      · exact a
      · omega
    · exact .inl
  · have z : 1 + 1 * c = c + 1 := by omega
    rw [z]
    simp
theorem isP_cut {n : Nat} {p : List Nat} (h : IsP (n + 1) p) : IsP n (p.take n) ∧ p = p.take n ++ [itm p (n + 1)] ∧ (itm p (n + 1) = n + 1 ∨ itm p (n + 1) ∈ p.take n) := by
  have it : ∀ x, 1 ≤ x → x ≤ n → itm (p.take n) x = itm p x := fun x h1 h2 => by
    unfold itm
    rw [List.getD_eq_getElem?_getD, List.getD_eq_getElem?_getD, List.getElem?_take_of_lt (by omega)]
  have lt : (p.take n).length = n := by rw [List.length_take, h.len]; omega
  have lo := h.lo (n + 1) (by omega) (Nat.le_refl _)
  have rt := h.rt (n + 1) (by omega) (Nat.le_refl _)
  refine ⟨⟨lt, fun x h1 h2 => by rw [it x h1 h2]; exact h.lo x h1 (by omega), fun x h1 h2 => ?_⟩, ?_, ?_⟩
  · have l := h.lo x h1 (by omega)
    rw [it x h1 h2, it _ l.1 (by omega)]
    exact h.rt x h1 (by omega)
  · have e := itm_get (p := p) (x := n + 1) (by omega) (by rw [h.len]; omega)
    have d : p.drop n = [itm p (n + 1)] := by
      have l : (p.drop n).length = 1 := by rw [List.length_drop, h.len]; omega
      match q : p.drop n, l with
      | [v], _ =>
        have z : (p.drop n)[0]? = some v := by rw [q]; rfl
        rw [List.getElem?_drop] at z
        have e2 : p[n]? = some (itm p (n + 1)) := e
        rw [Nat.add_zero, e2] at z
        rw [Option.some.inj z]
    rw [← d, List.take_append_drop]
  · by_cases g : itm p (n + 1) = n + 1
    · exact .inl g
    · refine .inr ?_
      have l : itm p (n + 1) ≤ n := by omega
      have e := itm_get (p := p.take n) (x := itm p (n + 1)) lo.1 (by rw [lt]; exact l)
      rw [it _ lo.1 l, rt] at e
      exact List.mem_of_getElem? e
theorem mem_rowsN : ∀ {n : Nat} {p : List Nat}, IsP n p → p ∈ rowsN n
  | 0, p, h => by
    have e : p = [] := List.eq_nil_of_length_eq_zero h.len
    subst e
    exact List.mem_singleton.mpr rfl
  | n + 1, p, h => by
    obtain ⟨hq, e, hv⟩ := isP_cut h
    have lo := h.lo (n + 1) (by omega) (Nat.le_refl _)
    rw [e]
    refine List.mem_flatMap.mpr ⟨_, mem_rowsN hq, List.mem_map.mpr ⟨_, mem_asc.mpr ⟨lo.1, lo.2, ?_⟩, rfl⟩⟩
    rcases hv with hv | hv
    · rw [hv]
      exact List.mem_append_right _ (List.mem_singleton.mpr rfl)
    · exact List.mem_append_left _ hv
theorem isP_rowsN : ∀ n, n ≤ 6 → ∀ r ∈ rowsN n, r.length = n ∧ ∀ x, x < n → 1 ≤ r.getD x 0 ∧ r.getD x 0 ≤ x + 1 ∧ r.getD (r.getD x 0 - 1) 0 = r.getD x 0 := by decide +kernel
theorem rowsN_isP {n : Nat} {r : List Nat} (h6 : n ≤ 6) (h : r ∈ rowsN n) : IsP n r := by
  obtain ⟨l, a⟩ := isP_rowsN n h6 r h
  refine ⟨l, fun x h1 h2 => ?_, fun x h1 h2 => ?_⟩
  · obtain ⟨a1, a2, _⟩ := a (x - 1) (by omega)
    exact ⟨a1, by unfold itm; omega⟩
  · exact (a (x - 1) (by omega)).2.2
def codeN (r : List Nat) : Nat := r.foldl (fun a x => a * 7 + x) 0
theorem rowsN_le : ∀ n, n ≤ 6 → (rowsN n).length ≤ 203 := by decide +kernel
def bellN (row : List Nat) : List Nat := row.foldl (fun b x => b ++ [b.getD (b.length - 1) 0 + x]) [row.getD (row.length - 1) 0]
def bell : Nat → List Nat
  | 0 => [1]
  | 1 => [1]
  | n + 1 => bellN (bell n)
theorem bell_is : ∀ n, n ≤ 6 → 1 ≤ n → (bell n).getD ((bell n).length - 1) 0 = (rowsN n).length := by decide +kernel
theorem bell_small : ∀ n, n ≤ 6 → 1 ≤ n → (bell n).length = n ∧ ∀ x ∈ bell n, x ≤ 203 := by decide +kernel
end Eyes

set_option Elab.async false
set_option linter.all false
set_option maxRecDepth 100000
set_option maxHeartbeats 4000000
/-! Circles as data: texts, sizes, depths; how they are built; how they stand in the heap. -/
namespace Eyes
open PySem PySem.Spec PyProof.Rows L2 Evl TL
inductive Ci where
  | eye (n : Str)
  | node (k : Bool) (ps : List Ci)
def sepS : Bool → Str | true => " & " | false => " | "
def kindS : Bool → Str | true => "pool" | false => "common"
def wrapL (c : Ci) (t : List Nat) : List Nat := match c with
  | .eye _ => t
  | .node _ _ => 40 :: (t ++ [41])
mutual
def Ci.tx : Ci → List Nat
  | .eye n => tl n
  | .node k ps => joinL (tl (sepS k)) (inns ps)
def inns : List Ci → List (List Nat)
  | [] => []
  | c :: r => wrapL c c.tx :: inns r
end
mutual
def Ci.size : Ci → Nat
  | .eye _ => 1
  | .node _ ps => sizes ps
def sizes : List Ci → Nat
  | [] => 0
  | c :: r => c.size + sizes r
end
mutual
def Ci.depth : Ci → Nat
  | .eye _ => 0
  | .node _ ps => 1 + depths ps
def depths : List Ci → Nat
  | [] => 0
  | c :: r => max c.depth (depths r)
end
def Ci.str (c : Ci) : Str := ⟨c.tx.toArray⟩
def Ci.kind : Ci → Str | .eye _ => "eye" | .node k _ => kindS k
def Ci.name : Ci → Str | .eye n => n | .node _ _ => ""
def Ci.parts : Ci → List Ci | .eye _ => [] | .node _ ps => ps
def Ci.isK (k : Bool) : Ci → Bool | .eye _ => false | .node j _ => j == k
/-! ### building -/
def flat (k : Bool) : List Ci → List Ci
  | [] => []
  | c :: r => (if c.isK k = true then c.parts else [c]) ++ flat k r
def dd : List Ci → List Ci → List Ci
  | acc, [] => acc
  | acc, c :: r => if acc.any (fun d => decide (d.str = c.str)) = true then dd acc r else dd (acc ++ [c]) r
def wrapK (k : Bool) : List Ci → Ci
  | [c] => c
  | ps => .node k ps
def mkC (k : Bool) (cs : List Ci) : Ci := wrapK k (dd [] (flat k cs))
/-! ### what is well made: names of letters, two parts or more -/
def nm (n : Str) : Prop := 1 ≤ n.length ∧ n.length ≤ 6 ∧ ∀ x ∈ tl n, 97 ≤ x ∧ x ≤ 122
mutual
def Ci.ok : Ci → Prop
  | .eye n => nm n
  | .node _ ps => 2 ≤ ps.length ∧ oks ps
def oks : List Ci → Prop
  | [] => True
  | c :: r => c.ok ∧ oks r
end
theorem oks_mem : ∀ {ps : List Ci}, oks ps ↔ ∀ c ∈ ps, c.ok
  | [] => ⟨fun _ _ h => (nomatch h), fun _ => True.intro⟩
  | c :: r => by
    show c.ok ∧ oks r ↔ _
    rw [oks_mem (ps := r)]
    constructor
    · rintro ⟨h1, h2⟩ d hd
      rcases List.mem_cons.mp hd with rfl | hd
      · exact h1
      · exact h2 d hd
    · intro h
      exact ⟨h c List.mem_cons_self, fun d hd => h d (List.mem_cons_of_mem _ hd)⟩
mutual
theorem Ci.size_pos : ∀ c : Ci, c.ok → 1 ≤ c.size
  | .eye n, _ => Nat.le_refl _
  | .node k ps, h => Nat.le_trans (Nat.le_trans (by decide) h.1) (sizes_len ps h.2)
theorem sizes_len : ∀ ps : List Ci, oks ps → ps.length ≤ sizes ps
  | [], _ => Nat.zero_le _
  | c :: r, h => by
    have h1 := Ci.size_pos c h.1
    have h2 := sizes_len r h.2
    show r.length + 1 ≤ c.size + sizes r
    omega
end
/-! ### in the heap -/
def flds (kind name : Str) (l : Addr) (s d : Int) (t : Str) : List (Str × V) :=
  putF "_text" (.str t) (putF "depth" (.int d) (putF "size" (.int s) (putF "_parts" (.ref l) (putF "name" (.str name) (putF "kind" (.str kind) [])))))
section
variable {kind name t : Str} {l : Addr} {s d : Int}
end
mutual
inductive CiAt (C : Addr) (H : Hp) : V → Ci → Prop
  | mk {p dx l : Addr} {vs : List V} {c : Ci} {ps : List Ci} : ps = c.parts → H p = some (.ins C dx (flds c.kind c.name l c.size c.depth c.str)) → H l = some (.lst vs) → CisAt C H vs ps → CiAt C H (.ref p) c
inductive CisAt (C : Addr) (H : Hp) : List V → List Ci → Prop
  | nil : CisAt C H [] []
  | cons {v : V} {vs : List V} {c : Ci} {cs : List Ci} : CiAt C H v c → CisAt C H vs cs → CisAt C H (v :: vs) (c :: cs)
end
mutual
theorem CiAt.mono {C : Addr} {H H' : Hp} (e : Ex H H') : ∀ {v : V} {c : Ci}, CiAt C H v c → CiAt C H' v c
  | _, _, .mk h0 h1 h2 h3 => .mk h0 (e _ _ h1) (e _ _ h2) (CisAt.mono e h3)
theorem CisAt.mono {C : Addr} {H H' : Hp} (e : Ex H H') : ∀ {vs : List V} {cs : List Ci}, CisAt C H vs cs → CisAt C H' vs cs
  | _, _, .nil => .nil
  | _, _, .cons h r => .cons (CiAt.mono e h) (CisAt.mono e r)
end
section
variable {C : Addr} {H : Hp}
theorem CisAt.length : ∀ {vs : List V} {cs : List Ci}, CisAt C H vs cs → vs.length = cs.length
  | _, _, .nil => rfl
  | _, _, .cons _ r => congrArg Nat.succ (CisAt.length r)
theorem CisAt.get : ∀ {vs : List V} {cs : List Ci} {i : Nat} {v : V}, CisAt C H vs cs → vs[i]? = some v → ∃ c, cs[i]? = some c ∧ CiAt C H v c
  | _, _, _, _, .nil, e => by simp at e
  | _, _, 0, _, .cons h _, e => by
    simp at e
    subst e
    exact ⟨_, rfl, h⟩
  | _, _, i + 1, v, .cons _ r, e => by
    obtain ⟨c, h1, h2⟩ := CisAt.get (i := i) (v := v) r (by simpa using e)
    exact ⟨c, by simpa using h1, h2⟩
theorem CisAt.append : ∀ {vs ws : List V} {cs ds : List Ci}, CisAt C H vs cs → CisAt C H ws ds → CisAt C H (vs ++ ws) (cs ++ ds)
  | _, _, _, _, .nil, s => s
  | _, _, _, _, .cons h r, s => .cons h (CisAt.append r s)
theorem CisAt.one {v : V} {c : Ci} (h : CiAt C H v c) : CisAt C H [v] [c] := .cons h .nil
theorem CiAt.at_ {v : V} {c : Ci} (h : CiAt C H v c) : ∃ p dx l vs, v = .ref p ∧ H p = some (.ins C dx (flds c.kind c.name l c.size c.depth c.str)) ∧ H l = some (.lst vs) ∧ CisAt C H vs c.parts := by
  cases h with
  | mk h0 h1 h2 h3 =>
    subst h0
    exact ⟨_, _, _, _, rfl, h1, h2, h3⟩
end
/-! ### facts about building -/
theorem dd_sub : ∀ {acc cs : List Ci} {d : Ci}, d ∈ dd acc cs → d ∈ acc ∨ d ∈ cs
  | acc, [], d, h => .inl h
  | acc, e :: r, d, h => by
    unfold dd at h
    by_cases g : acc.any (fun d => decide (d.str = e.str)) = true
    · rw [if_pos g] at h
      exact (dd_sub h).imp_right (List.mem_cons_of_mem _)
    · rw [if_neg g] at h
      rcases dd_sub h with h | h
      · rcases List.mem_append.mp h with h | h
        · exact .inl h
        · rw [List.mem_singleton.mp h]
          exact .inr List.mem_cons_self
      · exact .inr (List.mem_cons_of_mem _ h)
theorem dd_ge : ∀ {acc cs : List Ci}, acc.length ≤ (dd acc cs).length
  | acc, [] => Nat.le_refl _
  | acc, e :: r => by
    unfold dd
    by_cases g : acc.any (fun d => decide (d.str = e.str)) = true
    · rw [if_pos g]
      exact dd_ge
    · rw [if_neg g]
      have := dd_ge (acc := acc ++ [e]) (cs := r)
      rw [List.length_append, List.length_singleton] at this
      omega
theorem dd_ne {cs : List Ci} (h : cs ≠ []) : dd [] cs ≠ [] := by
  cases cs with
  | nil => exact absurd rfl h
  | cons e r =>
    have := dd_ge (acc := [e]) (cs := r)
    intro g
    have g2 : dd [e] r = [] := g
    rw [g2] at this
    exact absurd this (by simp)
def Ci.fine (c : Ci) : Prop := c.ok ∧ c.size ≤ 60
theorem sizes_mem : ∀ {ps : List Ci} {c : Ci}, c ∈ ps → c.size ≤ sizes ps
  | d :: r, c, h => by
    show c.size ≤ d.size + sizes r
    rcases List.mem_cons.mp h with rfl | h
    · omega
    · have := sizes_mem h
      omega
theorem parts_fine {c d : Ci} (h : c.fine) (hd : d ∈ c.parts) : d.fine := by
  cases c with
  | eye n => exact absurd hd (by intro h; cases h)
  | node k ps =>
    have hd : d ∈ ps := hd
    have h2 : sizes ps ≤ 60 := h.2
    exact ⟨oks_mem.mp h.1.2 d hd, Nat.le_trans (sizes_mem hd) h2⟩
theorem flat_fine {k : Bool} : ∀ {cs : List Ci}, (∀ c ∈ cs, c.fine) → ∀ d ∈ flat k cs, d.fine
  | [], _, d, hd => by cases hd
  | c :: r, h, d, hd => by
    unfold flat at hd
    rcases List.mem_append.mp hd with hd | hd
    · by_cases g : c.isK k = true
      · rw [if_pos g] at hd
        exact parts_fine (h c List.mem_cons_self) hd
      · rw [if_neg g] at hd
        rw [List.mem_singleton.mp hd]
        exact h c List.mem_cons_self
    · exact flat_fine (fun e he => h e (List.mem_cons_of_mem _ he)) d hd
theorem flat_ne {k : Bool} {cs : List Ci} (hf : ∀ c ∈ cs, c.ok) (h : cs ≠ []) : flat k cs ≠ [] := by
  cases cs with
  | nil => exact absurd rfl h
  | cons c r =>
    intro g
    have g2 : (if c.isK k = true then c.parts else [c]) = [] := (List.append_eq_nil_iff.mp g).1
    by_cases e : c.isK k = true
    · rw [if_pos e] at g2
      have := hf c List.mem_cons_self
      cases c with
      | eye n => cases e
      | node j ps =>
        have h2 : 2 ≤ ps.length := this.1
        have g2 : ps = [] := g2
        rw [g2] at h2
        exact absurd h2 (by decide)
    · rw [if_neg e] at g2
      cases g2
def pts (k : Bool) (cs : List Ci) : List Ci := dd [] (flat k cs)
theorem mkC_one {k : Bool} {cs : List Ci} {c : Ci} (h : pts k cs = [c]) : mkC k cs = c := by
  show wrapK k (pts k cs) = c
  rw [h]
  rfl
theorem mkC_more {k : Bool} {cs : List Ci} (h : (pts k cs).length ≠ 1) : mkC k cs = .node k (pts k cs) := by
  show wrapK k (pts k cs) = _
  generalize pts k cs = l at h
  match l, h with
  | [], _ => rfl
  | [c], h => exact absurd rfl h
  | c :: d :: r, _ => rfl
structure Good (k : Bool) (cs : List Ci) : Prop where
  ne : cs ≠ []
  fine : ∀ c ∈ cs, c.fine
  few : cs.length ≤ 1400
  size : (mkC k cs).size ≤ 60
  depth : (mkC k cs).depth ≤ 20
theorem Good.pts_ne {k : Bool} {cs : List Ci} (g : Good k cs) : pts k cs ≠ [] := dd_ne (flat_ne (fun c hc => (g.fine c hc).1) g.ne)
theorem Good.pts_fine {k : Bool} {cs : List Ci} (g : Good k cs) : ∀ c ∈ pts k cs, c.fine := fun c hc => by
  rcases dd_sub hc with h | h
  · cases h
  · exact flat_fine g.fine c h
theorem Good.ok {k : Bool} {cs : List Ci} (g : Good k cs) : (mkC k cs).fine := by
  refine ⟨?_, g.size⟩
  by_cases h : (pts k cs).length = 1
  · obtain ⟨c, hc⟩ := List.length_eq_one_iff.mp h
    rw [mkC_one hc]
    exact (g.pts_fine c (by rw [hc]; exact List.mem_cons_self)).1
  · rw [mkC_more h]
    refine ⟨?_, oks_mem.mpr fun c hc => (g.pts_fine c hc).1⟩
    have := List.length_pos_iff.mpr g.pts_ne
    omega
end Eyes

set_option Elab.async false
set_option linter.all false
set_option maxRecDepth 100000
set_option maxHeartbeats 4000000
/-! A text tells its circle. -/
namespace Eyes
open PySem PySem.Spec PyProof.Rows L2 Evl TL
def scan : Nat → List Nat → List Nat → List Nat × List Nat
  | _, acc, [] => (acc, [])
  | d, acc, x :: r => if x = 40 then scan (d + 1) (acc ++ [x]) r else if x = 41 then scan (d - 1) (acc ++ [x]) r else if x = 32 ∧ d = 0 then (acc, x :: r) else scan d (acc ++ [x]) r
theorem scan_open {d : Nat} {acc r : List Nat} : scan d acc (40 :: r) = scan (d + 1) (acc ++ [40]) r := by
  rw [scan, if_pos rfl]
theorem scan_close {d : Nat} {acc r : List Nat} : scan (d + 1) acc (41 :: r) = scan d (acc ++ [41]) r := by
  rw [scan, if_neg (by decide), if_pos rfl, Nat.add_sub_cancel]
theorem scan_other {d x : Nat} {acc r : List Nat} (h1 : x ≠ 40) (h2 : x ≠ 41) (h3 : x ≠ 32 ∨ 1 ≤ d) : scan d acc (x :: r) = scan d (acc ++ [x]) r := by
  rw [scan, if_neg h1, if_neg h2, if_neg]
  rintro ⟨a, b⟩
  rcases h3 with h | h
  · exact h a
  · omega
theorem scan_let {d : Nat} : ∀ (n acc r : List Nat), (∀ x ∈ n, 97 ≤ x ∧ x ≤ 122) → scan d acc (n ++ r) = scan d (acc ++ n) r
  | [], acc, r, _ => by rw [List.append_nil]; rfl
  | x :: n, acc, r, h => by
    have hx := h x List.mem_cons_self
    show scan d acc (x :: (n ++ r)) = _
    rw [scan_other (by omega) (by omega) (.inl (by omega)), scan_let n _ r fun y hy => h y (List.mem_cons_of_mem _ hy), List.append_assoc]
    rfl
def Itm (p : List Nat) : Prop := ∀ d acc r, scan d acc (p ++ r) = scan d (acc ++ p) r
theorem sep_tl (k : Bool) : tl (sepS k) = [32, if k = true then 38 else 124, 32] := by cases k <;> decide +kernel
theorem scan_sep {k : Bool} {d : Nat} {acc r : List Nat} : scan (d + 1) acc (tl (sepS k) ++ r) = scan (d + 1) (acc ++ tl (sepS k)) r := by
  rw [sep_tl]
  show scan (d + 1) acc (32 :: (if k = true then 38 else 124) :: 32 :: r) = _
  rw [scan_other (by decide) (by decide) (.inr (by omega)), scan_other (by cases k <;> decide) (by cases k <;> decide) (.inr (by omega)), scan_other (by decide) (by decide) (.inr (by omega))]
  simp
theorem scan_join {k : Bool} {d : Nat} : ∀ (l : List (List Nat)) (acc r : List Nat), (∀ p ∈ l, Itm p) → scan (d + 1) acc (joinL (tl (sepS k)) l ++ r) = scan (d + 1) (acc ++ joinL (tl (sepS k)) l) r
  | [], acc, r, _ => by show scan (d + 1) acc r = scan (d + 1) (acc ++ []) r; rw [List.append_nil]
  | [p], acc, r, h => h p List.mem_cons_self _ _ _
  | p :: q :: l, acc, r, h => by
    show scan (d + 1) acc ((p ++ (tl (sepS k) ++ joinL (tl (sepS k)) (q :: l))) ++ r) = _
    rw [List.append_assoc, h p List.mem_cons_self, List.append_assoc, scan_sep, scan_join (q :: l) _ r fun y hy => h y (List.mem_cons_of_mem _ hy), List.append_assoc, List.append_assoc]
    rfl
mutual
theorem Ci.itm : ∀ c : Ci, c.ok → Itm (wrapL c c.tx)
  | .eye n, h => fun d acc r => scan_let (tl n) acc r h.2.2
  | .node k ps, h => fun d acc r => by
    show scan d acc ((40 :: (joinL (tl (sepS k)) (inns ps) ++ [41])) ++ r) = scan d (acc ++ (40 :: (joinL (tl (sepS k)) (inns ps) ++ [41]))) r
    have e : (40 :: (joinL (tl (sepS k)) (inns ps) ++ [41])) ++ r = 40 :: (joinL (tl (sepS k)) (inns ps) ++ (41 :: r)) := by simp
    rw [e, scan_open, scan_join _ _ _ (inns_itm ps h.2), scan_close]
    simp
theorem inns_itm : ∀ ps : List Ci, oks ps → ∀ p ∈ inns ps, Itm p
  | [], _, p, hp => by cases hp
  | c :: r, h, p, hp => by
    rcases List.mem_cons.mp hp with rfl | hp
    · exact Ci.itm c h.1
    · exact inns_itm r h.2 p hp
end
theorem Itm.all {p : List Nat} (h : Itm p) : scan 0 [] p = (p, []) := by
  have := h 0 [] []
  rw [List.append_nil] at this
  exact this
theorem Itm.cut {p r : List Nat} (h : Itm p) : scan 0 [] (p ++ 32 :: r) = (p, 32 :: r) := by
  rw [h 0 [] (32 :: r), scan, if_neg (by decide), if_neg (by decide), if_pos ⟨rfl, rfl⟩]
  rfl
end Eyes

set_option Elab.async false
set_option linter.all false
set_option maxRecDepth 100000
set_option maxHeartbeats 4000000
/-! Circles as the laws write them: tuples within tuples. -/
namespace Eyes
open PySem PySem.Spec PyProof.Rows L2 Evl TL
mutual
def Ci.data : Ci → PyData
  | .eye n => .tuple [.str "eye", .str n]
  | .node k ps => .tuple [.str (kindS k), .tuple (datas ps)]
def datas : List Ci → List PyData
  | [] => []
  | c :: r => c.data :: datas r
end
def dl : List Ci → List Ci → List Ci
  | acc, [] => acc
  | acc, c :: r => if (datas acc).any (fun z => PyData.eqv z c.data) = true then dl acc r else dl (acc ++ [c]) r
end Eyes

set_option Elab.async false
set_option linter.all false
set_option maxRecDepth 100000
set_option maxHeartbeats 4000000
/-! Normal circles: what joining gives, and what signs build. -/
namespace Eyes
open PySem PySem.Spec PyProof.Rows L2 Evl TL
mutual
def Ci.norm : Ci → Prop
  | .eye n => nm n
  | .node k ps => 2 ≤ ps.length ∧ (∀ c ∈ ps, c.isK k = false) ∧ ps.Nodup ∧ norms ps
def norms : List Ci → Prop
  | [] => True
  | c :: r => c.norm ∧ norms r
end
def some_of (k : Bool) : List Ci → Ci
  | [c] => c
  | ps => .node k ps
end Eyes

set_option Elab.async false
set_option linter.all false
set_option maxRecDepth 100000
/-! The eyes of a circle: leaves, sorted lists of texts. -/
namespace Eyes
open PySem PySem.Spec PyProof.Rows L2 Evl TL
mutual
def Ci.leaves : Ci → List Str
  | .eye n => [n]
  | .node _ ps => leavess ps
def leavess : List Ci → List Str
  | [] => []
  | c :: r => c.leaves ++ leavess r
end
mutual
theorem Ci.leaves_len : ∀ c : Ci, c.leaves.length = c.size
  | .eye _ => rfl
  | .node _ ps => leavess_len ps
theorem leavess_len : ∀ ps : List Ci, (leavess ps).length = sizes ps
  | [] => rfl
  | c :: r => by
    show (c.leaves ++ leavess r).length = c.size + sizes r
    rw [List.length_append, Ci.leaves_len c, leavess_len r]
end
mutual
theorem Ci.leaves_ne : ∀ c : Ci, c.ok → c.leaves ≠ []
  | .eye _, _ => by intro h; cases h
  | .node _ ps, h => by
    intro e
    have h1 := Ci.leaves_len (.node true ps)
    have h2 := sizes_len ps h.2
    have h3 : 2 ≤ ps.length := h.1
    have e : leavess ps = [] := e
    have h1 : (leavess ps).length = sizes ps := h1
    rw [e, List.length_nil] at h1
    omega
end
def IsEyes (c : Ci) (ys : List Str) : Prop := sortedS ys = true ∧ ys.Nodup ∧ ∀ y, y ∈ ys ↔ y ∈ c.leaves
theorem nodup_le {α : Type} [DecidableEq α] : ∀ {a b : List α}, a.Nodup → (∀ y ∈ a, y ∈ b) → a.length ≤ b.length
  | [], _, _, _ => Nat.zero_le _
  | x :: r, b, n, h => by
    obtain ⟨nx, nr⟩ := List.nodup_cons.mp n
    have hx : x ∈ b := h x List.mem_cons_self
    have := nodup_le (a := r) (b := b.erase x) nr fun y hy => (List.mem_erase_of_ne (by intro e; exact nx (e ▸ hy))).mpr (h y (List.mem_cons_of_mem _ hy))
    rw [List.length_erase_of_mem hx] at this
    have : 0 < b.length := List.length_pos_of_mem hx
    rw [List.length_cons]
    omega
theorem IsEyes.len {c : Ci} {ys : List Str} (h : IsEyes c ys) : ys.length ≤ c.size := by
  rw [← Ci.leaves_len]
  exact nodup_le h.2.1 fun y hy => (h.2.2 y).1 hy
theorem IsEyes.ne {c : Ci} {ys : List Str} (h : IsEyes c ys) (hc : c.ok) : ys ≠ [] := by
  intro e
  subst e
  have := Ci.leaves_ne c hc
  cases hl : c.leaves with
  | nil => exact this hl
  | cons y r => exact absurd ((h.2.2 y).2 (by rw [hl]; exact List.mem_cons_self)) (by simp)
end Eyes

set_option Elab.async false
set_option linter.all false
set_option maxRecDepth 100000
set_option maxHeartbeats 4000000
/-! Lambdas handed on through several defs. -/
namespace Eyes
open PySem PySem.Spec PyProof.Rows L2 LamX
def CallF (P : Program) (w : World) (K : PySem.W.Frag) (mg : Str → Option Value) (base : Heap) (k : Nat) (fr : List Addr) (H0 : Hp) (h0 : Heap) (f c' : Addr) (q : Str) (tl : XK → Hp → VK → Prop) : Prop :=
  ∀ (A : Around) (outer : List Env) (s1 : Shared) (HZ : Hp) (Q : VK) (E : XK), Room (k + 1) A → Env0 P w K mg base A outer s1 HZ → Un fr [] H0 HZ h0 s1.heap → HZ c' = some (CodeO c' q) → tl E HZ Q →
    PySem.W.FnAt f s1.heap ∧ codeAny (model P w) A (.call (.ref f) ⟨[], []⟩) (CR (L2.CX P w) outer P w HZ s1 Q E) s1
section
variable {X : Cx} {pins : List (Addr × Obj)} {σ : L2.St} {H : Hp} {s : Shared}
theorem callF_of {f c' : Addr} {pm ctv : Value} {params : Arguments} {body : Expr} {scope : Scope} {k : Nat} {tb : XK → TE}
    (I : Inv X pins σ H s) (L : LamS X.env.scope scope) (hf : s.heap.get? f = some (PySem.W.kla_obj "<lambda>" (X.env.qual ++ "<lambda>") params body scope (cloFrom X.env.cells scope.names []) pm c' ctv)) (hfn : H f = none) (hfr : f ∉ frs X.stack)
    (hbind : bindArgs (PySem.W.kla_fn "<lambda>" (X.env.qual ++ "<lambda>") params body scope (cloFrom X.env.cells scope.names []) pm (.ref c') ctv) ⟨[], []⟩ = pure [])
    (hbody : ∀ (A : Around) (outer : List Env) (s : Shared) (H : Hp) (E : XK), Room k (A.deeper (lamEnv X scope s.heap.objs.size f c')) → PE (lamCx X A outer s H E scope f c') body (tb E)) :
    CallF X.prog X.w X.K X.mg X.base k (frs X.stack) H s.heap f c' (X.env.qual ++ "<lambda>") (fun E HZ Q => tb E σ HZ Q) := by
  intro A outer s1 HZ Q E hr e0 un hc ht
  have of1 : s1.heap.get? f = some (PySem.W.kla_obj "<lambda>" (X.env.qual ++ "<lambda>") params body scope (cloFrom X.env.cells scope.names []) pm c' ctv) := un.keep f _ hf hfn hfr (fun z => nomatch (show f ∈ ([] : List Addr) from z))
  obtain ⟨⟨oc, vs, t, hoc, hdc, hvc⟩, _, _⟩ := e0.hok c' _ hc
  have lim : s1.heap.NoLimit := e0.mod.nolimit.keeps fun b o e => (e0.bs b o e).1
  refine ⟨⟨_, _, _, _, of1⟩, ?_⟩
  refine PySem.W.kla_callFunE hr.depth of1 rfl L.co L.gen rfl ⟨c', oc, vs, t, rfl, hoc, hdc, hvc⟩ ?_
  rw [hbind]
  refine wpAny_pure (wpAny_newFunctionEnv (fun y hy => (L.own y hy).2) (fun y hy => absurd hy (by simp)) (fun h₁ hns hsb => ⟨lim.fresh _ hsb, ?_⟩) L.kind)
  show codeAny _ _ (.expr body (lamEnv X scope s1.heap.objs.size f c')) _ _
  have kp : ∀ b o, s1.heap.get? b = some o → h₁.get? b = some o := fun b o e => hsb.extBut b o (Nat.ne_of_lt (Heap.lt_size e)) (Heap.get?_push_of_some _ e)
  have J : Inv (lamCx X A outer s1 HZ E scope f c') [] σ HZ { s1 with heap := h₁, toks := s1.toks + ([] : List (Str × Value)).length } :=
    lam_start2 I L e0 hr.hd un hns kp
  refine PySem.W.kla_codeExpr (wpAny_mono ((hbody _ _ s1 HZ E (hr.deeper _)).run [] _ _ HZ Q J ht) (fun v s' hq => ?_) fun e s' hq => hq)
  obtain ⟨w', H', J', rv, q⟩ := hq
  exact ⟨w', H', J'.os, J'.bare, J'.base, J'.hok, rv, q⟩
end
theorem CallF.step {P : Program} {w : World} {K : PySem.W.Frag} {mg : Str → Option Value} {base : Heap} {k : Nat} {fr fr' : List Addr} {H0 H1 : Hp} {h0 h1 : Heap} {f c' : Addr} {q : Str} {tl : XK → Hp → VK → Prop} (C : CallF P w K mg base k fr H0 h0 f c' q tl) (u : Un fr [] H0 H1 h0 h1)
    (hs : ∀ b ∈ fr', b ∈ fr ∨ h0.get? b = none) (hs2 : ∀ b ∈ fr, b ∈ fr') : CallF P w K mg base k fr' H1 h1 f c' q tl := by
  intro A outer s1 HZ Q E hr e0 un hc ht
  have v := (u.mono (fs' := fr') (ex' := []) hs2 fun _ z => z).trans un
  exact C A outer s1 HZ Q E hr e0 ⟨fun b o q n hb hx => v.keep b o q n (fun z => (hs b z).elim hb fun z2 => by rw [z2] at q; cases q) hx, fun b o q n hb hx => v.any q n hx, v.free, v.there, v.tups, v.frzs, v.tbls⟩ hc ht
def FnC (P : Program) (w : World) (K : PySem.W.Frag) (mg : Str → Option Value) (base : Heap) (kk k : Nat) (g : Addr) (TT : (XK → Hp → VK → Prop) → Hp → VK → Prop) : Prop :=
  ∀ (A : Around) (outer : List Env) (s : Shared) (H : Hp) (f c' : Addr) (q : Str) (tl : XK → Hp → VK → Prop) (Q : VK), Room k A → Env0 P w K mg base A outer s H → CallF P w K mg base kk (frs outer) H s.heap f c' q tl → H c' = some (CodeO c' q) → TT tl H Q →
    codeAny (model P w) A (.call (.ref g) ⟨[.ref f], []⟩) (CR C8.CX0 outer P w H s Q C8.E0) s
def PrC (P : Program) (w : World) (K : PySem.W.Frag) (mg : Str → Option Value) (base : Heap) (x : Str) (kk k : Nat) (TT : (XK → Hp → VK → Prop) → Hp → VK → Prop) : Prop :=
  ∃ g : Addr, mg x = some (.ref g) ∧ PySem.W.keepIn K (.ref g) = true ∧ FnC P w K mg base kk k g TT
theorem prC_mk {P : Program} {w : World} {K : PySem.W.Frag} {mg : Str → Option Value} {base : Heap} {x a : Str} {st : Stmt} {N : List Str} {kk k : Nat} {TT : (XK → Hp → VK → Prop) → Hp → VK → Prop} (FA : FnAt K mg x st [a]) (S : FnScope N [a] (defScope st))
    (hbody : ∀ (g : Addr) (cdg : Value) (A : Around) (outer : List Env) (s : Shared) (H : Hp) (f c' : Addr) (q : Str) (tl : XK → Hp → VK → Prop) (Q : VK), Room k (A.deeper (envOfC x (defScope st) s.heap.objs.size g cdg)) → CallF P w K mg base kk (frs outer) H s.heap f c' q tl → H c' = some (CodeO c' q) → TT tl H Q →
      ∃ t, PSs (cxOf C8.CX0 P w K mg base N x (defScope st) g cdg A outer s H C8.E0).nox (defBody st) t ∧ t { nx := fun _ H' => Q .non H', rt := Q } (L2.start N [.ref f]) H) : PrC P w K mg base x kk (k + 1) TT := by
  obtain ⟨g, fd, F, hb, hm⟩ := FA
  refine ⟨g, hm, F.kp, fun A outer s H f c' q tl Q hr e0 C hc ht => ?_⟩
  obtain ⟨oc, od, kV, doc, pm, an, cdv, ct, osl, rfl, lk, hcd⟩ := F.ex
  have KX : K.In s.heap := e0.mod.kin.keeps fun b o e => (e0.bs b o e).1
  refine run_ofS (N := N) (ps := [a]) (us := [.ref f]) (vs := [.ref f]) lk hcd S hr e0 (hb s [.ref f] KX rfl) (.cons rfl .nil) rfl fun hr' => ?_
  obtain ⟨t', ht', hq'⟩ := hbody g cdv A outer s H f c' q tl Q hr' C hc ht
  exact ⟨t', ht'.nox, hq'⟩
theorem pe_hand {CXg : CXT} {P : Program} {w : World} {K : PySem.W.Frag} {mg : Str → Option Value} {base : Heap} {Eg : XK} {Ng : List Str} {qg : Str} {sg : Scope} {g f c' : Addr} {cdg : Value} {A : Around} {outer : List Env} {s : Shared} {H : Hp} {kk j k i : Nat} {a q x : Str} {tl : XK → Hp → VK → Prop} {TT : (XK → Hp → VK → Prop) → Hp → VK → Prop} {p0 p1 p2 : Pos}
    (G : PrC P w K mg base x kk j TT) (C : CallF P w K mg base kk (frs outer) H s.heap f c' q tl) (hr : Room k (A.deeper (envOfC qg sg s.heap.objs.size g cdg))) (hN : Ng[i]? = some a) (hv : Vis sg a) (hj : j ≤ k := by first | decide | omega)
    (hg : Gl (cxOf CXg P w K mg base Ng qg sg g cdg A outer s H Eg).nox x := by rfl) (hdb : (x == ("__debug__" : Str)) = false := by decide) (hd : (a == ("__debug__" : Str)) = false := by decide) (hcd : (a == ("__classdict__" : Str)) = false := by decide) :
    PE (cxOf CXg P w K mg base Ng qg sg g cdg A outer s H Eg).nox (.Call (.Name x p0) [.Name a p1] [] p2)
      (fun σZ HZ Q => σZ[i]? = some (some (.ref f)) ∧ HZ c' = some (CodeO c' q) ∧ TT tl HZ Q) := by
  obtain ⟨gx, hm, hk, F⟩ := G
  refine ⟨fun pinsZ sZ σZ HZ Q IZ h => ?_⟩
  obtain ⟨hs, hc, ht⟩ := h
  refine wpAny_Call_Name_kw (ld_glob IZ hg hm ?_ hdb)
  refine PySem.W.callWith_K (h₀ := base) IZ.ok.mod.kin hk ?_ (by rfl) (by rfl)
  refine Calls.spliced_cons (thn ((pe_var (pos := p1) (i := i) hN hv hd hcd).run pinsZ sZ σZ HZ (fun v H1 => v = .ref f ∧ H1 = HZ) IZ ⟨.ref f, hs, rfl, rfl⟩) fun u s1 ⟨v, H1, I1, r1, q1⟩ => ?_)
  obtain ⟨ev, eH⟩ := q1
  subst ev
  rw [eH] at I1
  obtain rfl : u = Value.ref f := r1
  refine Calls.spliced_nil ⟨I1.kIn, ?_⟩
  have un : Un (frs outer) [] H HZ s.heap s1.heap := I1.base
  have rc := F (A.deeper (envOfC qg sg s.heap.objs.size g cdg)) _ s1 HZ f c' q tl Q (hr.mono hj) I1.env0 (C.step un (fun b hb => ?_) (fun b hb => ?_)) hc ht
  · refine wpAny_call (codeAny_mono rc fun r s2 hq => ?_)
    cases r with
    | error e => exact (show False from hq).elim
    | ok fl =>
      cases fl with
      | ret u => exact I1.after hq
      | next => exact False.elim hq
      | brk => exact False.elim hq
      | cont => exact False.elim hq
  · rcases List.mem_cons.mp (show b ∈ s.heap.objs.size :: frs outer from hb) with e | e
    · exact .inr (by rw [e]; exact Heap.get?_none_of_le (Nat.le_refl _))
    · exact .inl e
  · exact List.mem_cons_of_mem _ hb
section
variable {X : Cx}
theorem pe_lamh {T : List (Addr × Str)} {TT : (XK → Hp → VK → Prop) → Hp → VK → Prop} {x : Str} {c P : Addr} {kk j k : Nat} {params : Arguments} {body : Expr} {scope : Scope} {t : XK → TE} {p lpos pos : Pos} (G : PrC X.prog X.w X.K X.mg X.base x kk j TT) (hg : Gl X x)
    (TB : TabB X.base X.mg c P) (hcode : X.env.code = .ref c) (hmT : (P, X.env.qual ++ "<lambda>") ∈ T) (hu : ∀ p ∈ T, p.1 = P → p.2 = X.env.qual ++ "<lambda>") (hr : Room k X.A) (hj : j ≤ k) (L : LamS X.env.scope scope) (hdef : defaultsOf params X.env = ([], []))
    (hbind : ∀ (q : Str) (cl : List (Str × Addr)) (pm cv ctv : Value), bindArgs (PySem.W.kla_fn "<lambda>" q params body scope cl pm cv ctv) ⟨[], []⟩ = pure [])
    (hbody : ∀ (A : Around) (outer : List Env) (s : Shared) (H : Hp) (E : XK) (f c' : Addr), Room kk (A.deeper (lamEnv X scope s.heap.objs.size f c')) → PE (lamCx X A outer s H E scope f c') body (t E))
    (hdb : (x == ("__debug__" : Str)) = false := by decide) :
    PE X (.Call (.Name x p) [.Lambda params body scope lpos] [] pos) (tLam T TT t) := by
  obtain ⟨g, hm, hk, F⟩ := G
  refine ⟨fun pins s σ H Q I h => ?_⟩
  obtain ⟨hT, h⟩ := h
  refine wpAny_Call_Name_kw (ld_glob I hg hm ?_ hdb)
  refine PySem.W.callWith_K (h₀ := X.base) I.ok.mod.kin hk ?_ (by rfl) (by rfl)
  show wpAny _ _ (spliced ((false, eval (.Lambda params body scope lpos) X.env) :: backTo pos (starEach [] X.env))) _ _ s
  refine Calls.spliced_cons (lam_make2 I TB hcode hmT hu hT hdef (L.has I.ok) fun f c' pm' ctv H1 s' I1 eN T1 hf hfn hfr hco => ?_)
  refine Calls.spliced_nil ⟨I1.kIn, ?_⟩
  have rc := F X.A X.stack s' H1 f c' (X.env.qual ++ "<lambda>") (fun E H' Q' => t E σ H' Q') Q (hr.mono hj) I1.env0 (callF_of (k := kk) I1 L hf hfn hfr (hbind _ _ _ _ _) fun A outer s H E hr2 => hbody A outer s H E f c' hr2) hco (h H1 eN T1)
  refine wpAny_call (codeAny_mono rc fun r s2 hq => ?_)
  cases r with
  | error e => exact (show False from hq).elim
  | ok fl =>
    cases fl with
    | ret u => exact I1.after hq
    | next => exact False.elim hq
    | brk => exact False.elim hq
    | cont => exact False.elim hq
end
end Eyes

set_option Elab.async false
set_option linter.all false
set_option maxRecDepth 100000
set_option maxHeartbeats 4000000
/-! A lambda whose one parameter has a number as its default, made and handed on. -/
namespace Eyes
open PySem PySem.Spec PyProof.Rows L2 LamX
abbrev fnL (q : Str) (params : Arguments) (body : Expr) (scope : Scope) (cl : List (Str × Addr)) (dV pm cdv ctv : Value) : FuncData :=
  { name := "<lambda>", qualname := q, params, body := .expr body, scope, globals := mainGlobals, closure := cl, defaults := dV, kwdefaults := .none, doc := .none, pyModule := pm, annotations := none, code := cdv, closureTuple := ctv, builtins := builtinsNs }
abbrev obL (q : Str) (params : Arguments) (body : Expr) (scope : Scope) (cl : List (Str × Addr)) (dV pm cdv ctv : Value) : Obj := { cls := .type "function", data := .func (fnL q params body scope cl dV pm cdv ctv) }
abbrev obT (u : Value) : Obj := { cls := .type "tuple", data := .seq [u].toArray }
section
variable {M : Model} {A : Around} {E : Value → Shared → Prop} {s : Shared} {q : Str} {params : Arguments} {body : Expr} {scope : Scope} {env : Env} {c P : Addr} {ps : Array Value} {pos : Pos} {line : Nat} {mg : Str → Option Value} {cl : List (Str × Addr)} {Q : Value → Shared → Prop} {dV : Value}
theorem tail_new (hcl : closureFor scope env = pure cl) (eg : env.globals = mainGlobals) (g : s.heap.Ns mainGlobals mg) (ec : env.code = .ref c) (C : PySem.W.CodeHd s.heap c P) (eP : s.heap.get? P = some (PySem.W.tabObj ps)) (ht : TriplesOk ps.toList)
    (nf : codeAmong pos ps.toList = none) (gP : mainGlobals ≠ P) (bl : s.heap.BuiltinsAt mg P)
    (fin : ∀ (c' : Addr) (ctv : Value) (g' : Heap) (tk : Tok), Heap.ExtBut P s.heap g' → s.heap.objs.size ≤ c' → c' < g'.objs.size → g'.CodeRec (.ref c') q → g'.get? P = some (PySem.W.tabObj (ps ++ #[rawInt pos.line, rawInt pos.col, .ref c'])) →
      Q (.ref g'.objs.size) { s with heap := g'.push (obL q params body scope cl dV ((mg "__name__").getD .none) (.ref c') ctv), toks := tk }) :
    wpAny M A (makeTail "<lambda>" q params (.expr body) scope env dV .none none pos line) Q E s := by
  obtain ⟨b1, b2, k1, k2, k3, k4, k5, k6, k7, k8⟩ := bl
  unfold makeTail
  rw [hcl, eg]
  refine wpAny_bind (wpAny_pure ?_)
  cases cl with
  | nil =>
    simp only [List.isEmpty_nil, if_true]
    refine wpAny_bind (wpAny_pure (wpAny_bind (wpAny_functionCodeX ec (C.code eP ht) (C.tab eP) nf fun c' g' tk hx h1 h2 _ h3 h4 _ => ?_)))
    have G := g.extBut hx gP
    exact wpAny_bind (wpAny_builtinsFor G k1 k2 (hx _ _ k4 k5) k6 k7 k8 (wpAny_bind (wpAny_nsGet G (wpAny_bind (wpAny_pure (wpAny_newObj_type (fin c' .none g' tk hx h1 h2 h3 h4.2) (by size_fits)))))))
  | cons y r =>
    simp only [List.isEmpty_cons, Bool.false_eq_true, if_false]
    refine wpAny_bind (wpAny_newTextTuple (wpAny_bind (wpAny_functionCodeX ec ((C.keeps fun b o e => Heap.get?_push_of_some _ e).code (Heap.get?_push_of_some _ eP) ht) ((C.keeps fun b o e => Heap.get?_push_of_some _ e).tab (Heap.get?_push_of_some _ eP)) nf fun c' g' tk hx h1 h2 _ h3 h4 _ => ?_)))
    have G := (g.push _).extBut hx gP
    have old : Heap.ExtBut P s.heap g' := fun b o n e => hx b o n (Heap.get?_push_of_some _ e)
    have up : s.heap.objs.size ≤ c' := Nat.le_trans (by rw [Heap.size_push]; omega) h1
    exact wpAny_bind (wpAny_builtinsFor G k1 k2 (old _ _ k4 k5) k6 k7 k8 (wpAny_bind (wpAny_nsGet G (wpAny_bind (wpAny_pure (wpAny_newObj_type (fin c' _ g' tk old up h2 h3 h4.2) (by size_fits)))))))
theorem tail_old {cv : Value} (hcl : closureFor scope env = pure cl) (eg : env.globals = mainGlobals) (g : s.heap.Ns mainGlobals mg) (ec : env.code = .ref c) (C : PySem.W.CodeHd s.heap c P) (eP : s.heap.get? P = some (PySem.W.tabObj ps)) (ht : TriplesOk ps.toList)
    (hf : codeAmong pos ps.toList = some cv) (bl : s.heap.BuiltinsAt mg P)
    (fin : ∀ (ctv : Value) (g' : Heap) (tk : Tok), (∀ b o, s.heap.get? b = some o → g'.get? b = some o) → s.heap.objs.size ≤ g'.objs.size → Q (.ref g'.objs.size) { s with heap := g'.push (obL q params body scope cl dV ((mg "__name__").getD .none) cv ctv), toks := tk }) :
    wpAny M A (makeTail "<lambda>" q params (.expr body) scope env dV .none none pos line) Q E s := by
  obtain ⟨b1, b2, k1, k2, k3, k4, k5, k6, k7, k8⟩ := bl
  unfold makeTail
  rw [hcl, eg]
  refine wpAny_bind (wpAny_pure ?_)
  cases cl with
  | nil =>
    simp only [List.isEmpty_nil, if_true]
    exact wpAny_bind (wpAny_pure (wpAny_bind (wpAny_functionCode_hit ec (C.code eP ht) hf (wpAny_bind (wpAny_builtinsFor g k1 k2 k5 k6 k7 k8 (wpAny_bind (wpAny_nsGet g (wpAny_bind (wpAny_pure (wpAny_newObj_type (fin .none s.heap s.toks (fun _ _ e => e) (Nat.le_refl _)) (by size_fits)))))))))))
  | cons y r =>
    simp only [List.isEmpty_cons, Bool.false_eq_true, if_false]
    refine wpAny_bind (wpAny_newTextTuple (wpAny_bind (wpAny_functionCode_hit ec ((C.keeps fun b o e => Heap.get?_push_of_some _ e).code (Heap.get?_push_of_some _ eP) ht) hf (wpAny_bind (wpAny_builtinsFor (g.push _) k1 k2 (Heap.get?_push_of_some _ k5) k6 k7 k8 (wpAny_bind (wpAny_nsGet (g.push _) ?_)))))))
    have sz : ∀ ob : Obj, s.heap.objs.size ≤ (s.heap.push ob).objs.size := fun ob => by rw [Heap.size_push]; omega
    exact wpAny_bind (wpAny_pure (wpAny_newObj_type (fin _ _ s.toks (fun b o e => Heap.get?_push_of_some _ e) (sz _)) (by size_fits)))
end
structure LamN (N : List Str) (sc scope : Scope) : Prop where
  kind : scope.kind = .function
  co : scope.isCoroutine = false
  gen : scope.isGenerator = false
  cel : ∀ y ∈ scope.names, y.2 ≠ .cell
  loc : ∀ y ∈ scope.names, y.2 = .local → y.1 ∉ N
  free : ∀ y ∈ scope.names, y.2 = .free → sc.names.lookup y.1 = some .cell ∨ sc.names.lookup y.1 = some .free
def lamNB (N : List Str) (sc scope : Scope) : Bool :=
  decide (scope.kind = .function) && (!scope.isCoroutine && (!scope.isGenerator && scope.names.all fun y => !decide (y.2 = .cell) && ((!decide (y.2 = .local) || !N.contains y.1) && (!decide (y.2 = .free) || (decide (sc.names.lookup y.1 = some .cell) || decide (sc.names.lookup y.1 = some .free))))))
theorem lamN_by {N : List Str} {sc scope : Scope} (h : lamNB N sc scope = true) : LamN N sc scope := by
  unfold lamNB at h
  simp only [Bool.and_eq_true, Bool.or_eq_true, Bool.not_eq_true', decide_eq_true_eq, decide_eq_false_iff_not, List.all_eq_true, List.contains_eq_mem] at h
  obtain ⟨a1, a2, a3, a4⟩ := h
  refine ⟨a1, a2, a3, fun y hy => (a4 y hy).1, fun y hy e => ?_, fun y hy e => ?_⟩
  · rcases (a4 y hy).2.1 with z | z
    · exact absurd e z
    · exact z
  · rcases (a4 y hy).2.2 with z | z
    · exact absurd e z
    · exact z
theorem LamN.has {N : List Str} {X : Cx} {scope : Scope} (L : LamN N X.env.scope scope) (ok : X.Ok) : ∀ y ∈ scope.names, y.2 = .free → ∃ c, X.env.cells.lookup y.1 = some c := fun y hy e => by
  rcases L.free y hy e with k | k
  · exact ok.has _ (.inl k)
  · exact ok.has _ (.inr k)
section
variable {X : Cx} {pins : List (Addr × Obj)} {σ : L2.St} {H : Hp} {s : Shared}
theorem lam_makeD {T : List (Addr × Str)} {c P : Addr} {params : Arguments} {body : Expr} {scope : Scope} {pos kp : Pos} {ki : Nat} {z : Int} {E : Value → Shared → Prop} {Q : Value → Shared → Prop} (I : Inv X pins σ H s) (TB : TabB X.base X.mg c P) (ec : X.env.code = .ref c)
    (hm : (P, X.env.qual ++ "<lambda>") ∈ T) (hu : ∀ p ∈ T, p.1 = P → p.2 = X.env.qual ++ "<lambda>") (hT : Tabs T H) (hdef : defaultsOf params X.env = ([eval (.Constant (.int z) ki kp) X.env], [])) (hfree : ∀ y ∈ scope.names, y.2 = .free → ∃ c, X.env.cells.lookup y.1 = some c)
    (fin : ∀ (f c' t : Addr) (pm ctv : Value) (k : Tok) (G : Hp) (s' : Shared), Inv X pins σ G s' → ExtN H G → Tabs T G → s'.heap.get? f = some (obL (X.env.qual ++ "<lambda>") params body scope (cloFrom X.env.cells scope.names []) (.ref t) pm (.ref c') ctv) → G f = none → f ∉ frs X.stack →
      s'.heap.get? t = some (obT (.int z k)) → G t = none → t ∉ frs X.stack → G c' = some (CodeO c' (X.env.qual ++ "<lambda>")) → Q (.ref f) s') :
    wpAny (model X.prog X.w) X.A (eval (.Lambda params body scope pos) X.env) Q E s := by
  obtain ⟨ps, hP, ht, ha⟩ := hT _ hm
  rw [arm_eval_Lambda, hdef]
  show wpAny _ _ (do let dv ← evalAll [eval (.Constant (.int z) ki kp) X.env]; let kdv ← holding dv (evalAllOpt []); makeFunction "<lambda>" (X.env.qual ++ "<lambda>") params (.expr body) scope X.env dv kdv [] pos pos.line) _ _ _
  refine wpAny_bind ?_
  show wpAny _ _ (do let v ← eval (.Constant (.int z) ki kp) X.env; return v :: (← holding [v] (evalAll []))) _ _ _
  refine wpAny_bind (wpAny_mono ((pe_int (X := X.nox) (i := z) (j := ki) (pos := kp)).run pins s σ H (fun v G => v = .int z ∧ G = H) (I.wish _) ⟨rfl, rfl⟩) (fun u s1 ⟨v, G, I1, r1, ev, eG⟩ => ?_) (fun e s1 y => y.elim))
  subst ev
  rw [eG] at I1
  obtain ⟨k, rfl⟩ : ∃ k, u = .int z k := r1
  have I1 : Inv X pins σ H s1 := I1.wish _
  refine wpAny_bind (wpAny_holding (wpAny_pure (wpAny_pure (wpAny_bind (wpAny_holding (wpAny_pure ?_))))))
  rw [makeFunction_eq]
  simp only [List.zip_nil_right, List.filterMap_nil, List.isEmpty_nil, List.isEmpty_cons, Bool.false_eq_true, if_true, if_false, pure_bind]
  refine wpAny_bind (wpAny_newTextTuple ?_)
  have I2 : Inv X pins σ H { s1 with heap := s1.heap.push (obT (.int z k)) } := I1.kept fun b o e => Heap.get?_push_of_some _ e
  have nt : H s1.heap.objs.size = none := I1.hok.fresh (Nat.le_refl _)
  have bP : (s1.heap.push (obT (.int z k))).BuiltinsAt X.mg P := TB.bm.keeps I2.bk
  have eP : (s1.heap.push (obT (.int z k))).get? P = some { cls := .none, data := .fields ps } := I2.hok P _ hP
  have nofr : ∀ {s2 : Shared} (J : Inv X pins σ H s2) (f : Addr), s2.heap.objs.size ≤ f → f ∉ frs X.stack := fun {s2} J f hf y => by
    rcases List.mem_cons.mp (J.stkSub _ y) with e | e
    · have h1 := J.lt
      rw [← e] at h1
      exact Nat.lt_irrefl _ (Nat.lt_of_lt_of_le h1 hf)
    · exact J.nofs hf e
  have tAt : (s1.heap.push (obT (.int z k))).get? s1.heap.objs.size = some (obT (.int z k)) := Heap.get?_push_size _ rfl
  have sz2 : s1.heap.objs.size < (s1.heap.push (obT (.int z k))).objs.size := by rw [Heap.size_push]; omega
  cases hc : codeAmong pos ps.toList with
  | none =>
    refine tail_new (mg := X.mg) (c := c) (P := P) (ps := ps) (closure_ok hfree) I2.ok.glob (I2.mod.glob.keeps I2.bk) ec (TB.code.keeps I2.bk) eP ht hc TB.gP bP fun c' ctv g' tk hx hge hlt hrec htb => ?_
    obtain ⟨c2, oc, vs, t2, e2, hoc, hd, hv⟩ := hrec
    cases e2
    have hsz := Nat.le_trans hge (Nat.le_of_lt hlt)
    have nC : H c' = none := I2.hok.fresh hge
    have tP : s1.heap.objs.size ≠ P := fun e => by
      rw [← e] at hP
      rw [nt] at hP
      cases hP
    have I3 := inv_table (t' := tk) (more := #[rawInt pos.line, rawInt pos.col, .ref c']) (h' := g'.push (obL (X.env.qual ++ "<lambda>") params body scope (cloFrom X.env.cells scope.names []) (.ref s1.heap.objs.size) ((X.mg "__name__").getD .none) (.ref c') ctv)) I2 hP
      (fun b o hb e => Heap.get?_push_of_some _ (hx b o hb e)) (Heap.get?_push_of_some _ htb) hge ⟨oc, vs, t2, Heap.get?_push_of_some _ hoc, hd, hv⟩
    have hE : ExtN H (upd (upd H P (.tbl (ps ++ #[rawInt pos.line, rawInt pos.col, .ref c']))) c' (CodeO c' (X.env.qual ++ "<lambda>"))) := fun b o e n => by
      rw [upd_ne (ne_of_none e nC), upd_ne (fun y => n ps (Option.some.inj (e.symm.trans (by rw [y]; exact hP))))]
      exact e
    have eL : (ps ++ #[rawInt pos.line, rawInt pos.col, .ref c']).toList = ps.toList ++ [rawInt pos.line, rawInt pos.col, .ref c'] := by simp
    have t3 : (upd (upd H P (.tbl (ps ++ #[rawInt pos.line, rawInt pos.col, .ref c']))) c' (CodeO c' (X.env.qual ++ "<lambda>"))) s1.heap.objs.size = none := by
      rw [upd_ne (Nat.ne_of_lt (Nat.lt_of_lt_of_le sz2 hge)), upd_ne tP]
      exact nt
    refine fin g'.objs.size c' s1.heap.objs.size ((X.mg "__name__").getD .none) ctv k _ _ I3 hE (fun p hp => ?_) (Heap.get?_push_size _ rfl) ?_ (nofr I2 _ hsz) (Heap.get?_push_of_some _ (hx _ _ tP tAt)) t3 (nofr I1 _ (Nat.le_refl _)) upd_same
    · by_cases hb : p.1 = P
      · rw [hu p hp hb, hb]
        refine ⟨_, by rw [upd_ne (ne_of_none hP nC), upd_same], by rw [eL]; exact PySem.TriplesOk_snoc _ _ _ _ ht, fun p' cv hcv => ?_⟩
        rw [eL] at hcv
        rcases among_app _ ht hcv with y | y
        · obtain ⟨c0, e1, e2⟩ := ha p' cv y
          exact ⟨c0, e1, hE _ _ e2 codeO_ne⟩
        · exact ⟨c', y, upd_same⟩
      · obtain ⟨ps', a1, a2, a3⟩ := hT p hp
        refine ⟨ps', (upd_ne (ne_of_none a1 nC)).trans ((upd_ne hb).trans a1), a2, fun p' cv hcv => ?_⟩
        obtain ⟨c0, e1, e2⟩ := a3 p' cv hcv
        exact ⟨c0, e1, hE _ _ e2 codeO_ne⟩
    · rw [upd_ne (Nat.ne_of_gt hlt), upd_ne (Nat.ne_of_gt (Nat.lt_of_lt_of_le (Heap.lt_size eP) hsz))]
      exact I2.hok.fresh hsz
  | some cv =>
    obtain ⟨c', e, hco⟩ := ha pos cv hc
    subst e
    refine tail_old (mg := X.mg) (c := c) (P := P) (ps := ps) (closure_ok hfree) I2.ok.glob (I2.mod.glob.keeps I2.bk) ec (TB.code.keeps I2.bk) eP ht hc bP fun ctv g' tk hx hsz => ?_
    have I3 : Inv X pins σ H { s1 with heap := g'.push (obL (X.env.qual ++ "<lambda>") params body scope (cloFrom X.env.cells scope.names []) (.ref s1.heap.objs.size) ((X.mg "__name__").getD .none) (.ref c') ctv), toks := tk } := I2.kept fun b o e => Heap.get?_push_of_some _ (hx b o e)
    exact fin g'.objs.size c' s1.heap.objs.size ((X.mg "__name__").getD .none) ctv k H _ I3 (ExtN.refl H) hT (Heap.get?_push_size _ rfl) (I2.hok.fresh hsz) (nofr I2 _ hsz) (Heap.get?_push_of_some _ (hx _ _ tAt)) nt (nofr I1 _ (Nat.le_refl _)) hco
theorem lam_startD {A : Around} {outer : List Env} {E : XK} {scope : Scope} {f c' : Addr} {g1 : Heap} {tk : Nat} {HZ : Hp} {s1 : Shared} {bs : List (Str × Value)} (I : Inv X pins σ H s) (L : LamN X.N X.env.scope scope) (e0 : Env0 X.prog X.w X.K X.mg X.base A outer s1 HZ) (hd : A.handled = none)
    (un : Un (frs X.stack) [] H HZ s.heap s1.heap) (hns : g1.Ns s1.heap.objs.size fun y => bs.reverse.lookup y) (kp : ∀ b o, s1.heap.get? b = some o → g1.get? b = some o) :
    Inv (lamCx X A outer s1 HZ E scope f c') [] σ HZ { s1 with heap := g1, toks := tk } := by
  have hfree := L.has I.ok
  have cm : ∀ {y c}, (cloFrom X.env.cells scope.names []).lookup y = some c → X.env.cells.lookup y = some c := fun {y c} e => by
    rcases cloFrom_mem (PySem.mem_of_lookup e) with hm | ⟨m1, m2⟩
    · cases hm
    · obtain ⟨c1, hc⟩ := hfree _ m1 rfl
      have hc : X.env.cells.lookup y = some c1 := hc
      rw [show c = c1 by rw [m2, hc] <;> rfl]
      exact hc
  have look : ∀ {y}, scope.names.lookup y = some .free → ∃ c, (cloFrom X.env.cells scope.names []).lookup y = some c := fun {y} hl => mem_lookup (cloFrom_has (cells := X.env.cells) (acc := []) (PySem.mem_of_lookup hl))
  have cellK : ∀ {c : Addr} {v : Option Value}, H c = none → s.heap.IsCell c v → g1.IsCell c v := fun {c v} n ⟨o, ho, hd⟩ => by
    obtain ⟨sl, q⟩ := un.any ho n (by simp)
    exact ⟨_, kp _ _ q, hd⟩
  have noA : ∀ b : Addr, b ∉ (lamCx X A outer s1 HZ E scope f c').ex := fun b y => absurd (show b ∈ ([] : List Addr) from y) (by simp)
  have okH : ∀ y : Str, scope.names.lookup y = some .cell ∨ scope.names.lookup y = some .free → ∃ c, (cloFrom X.env.cells scope.names []).lookup y = some c := fun y hy => by
    rcases hy with hy | hy
    · exact absurd rfl (L.cel _ (PySem.mem_of_lookup hy))
    · exact look hy
  have okC : ∀ {p : Prop}, false = true → p := fun {p} y => by cases y
  have ok1 : (lamCx X A outer s1 HZ E scope f c').Ok := ⟨e0.mod, L.kind, rfl, rfl, Nat.le_refl _, (fun y y' c e1 e2 => I.ok.inj y y' c (cm e1) (cm e2)), (fun y hy => okH y hy), (fun y c y2 _ => okC y2), (fun _ => hd), Around.frames_deeper e0.frames, .inr ⟨rfl, rfl⟩, (fun b y => absurd y (noA b)), e0.bs, e0.bsz, (fun b _ _ => noA b), (fun b y => absurd y (noA b)), e0.funs, e0.frf⟩
  refine ⟨ok1, rfl, e0.bare, Un.kept kp, ⟨_, hns, fun i y v e1 e2 e3 => ?_⟩, fun y c e => ?_, e0.hok.fresh (Nat.le_refl _), fun y c e => ?_, fun q hq => absurd (show q ∈ ([] : List (Addr × Obj)) ++ [] from hq) (by simp), e0.hok.kept kp, I.len⟩
  · have yN : y ∈ X.N := List.mem_of_getElem? e1
    rcases (show Vis scope y from e3) with k | k | k
    · exact absurd yN (L.loc _ (PySem.mem_of_lookup k) rfl)
    · exact absurd rfl (L.cel _ (PySem.mem_of_lookup k))
    · obtain ⟨m, hn, hl⟩ := I.loc
      have free := L.free _ (PySem.mem_of_lookup k) rfl
      obtain ⟨w', r, q⟩ := hl i y v e1 e2 (free.elim (fun k => .inr (.inl k)) (fun k => .inr (.inr k)))
      obtain ⟨c2, h2⟩ := look k
      have c1 := cm h2
      refine ⟨w', r, .inr ⟨.inr k, c2, h2, ?_⟩⟩
      rcases q with ⟨k', _⟩ | ⟨_, c3, e', y3⟩
      · have k' : X.env.scope.names.lookup y = some .local := k'
        rcases free with k2 | k2 <;> rw [show X.env.scope.names.lookup y = _ from k2] at k' <;> cases k'
      · cases c1.symm.trans e'
        exact cellK (I.freeC y _ c1) y3
  · obtain ⟨w', y3⟩ := I.cell y c (cm e)
    exact ⟨w', cellK (I.freeC y c (cm e)) y3⟩
  · obtain ⟨v, o, ho, hd⟩ := I.cell y c (cm e)
    exact un.free c o ho (I.freeC y c (cm e)) (by simp)
def BindD (params : Arguments) (body : Expr) (scope : Scope) (a : Str) : Prop :=
  (∀ (q : Str) (cl : List (Str × Addr)) (t : Addr) (pm cv ctv u : Value), ∃ k, bindArgs (fnL q params body scope cl (.ref t) pm cv ctv) ⟨[], []⟩ = seqItems? (.ref t) >>= k ∧ k (some [u].toArray) = pure [(a, u)]) ∧ scope.names.lookup a = some .local
theorem callF_ofD {f c' t : Addr} {pm ctv u : Value} {params : Arguments} {body : Expr} {scope : Scope} {k : Nat} {tb : XK → TE} {a : Str}
    (I : Inv X pins σ H s) (L : LamN X.N X.env.scope scope) (hf : s.heap.get? f = some (obL (X.env.qual ++ "<lambda>") params body scope (cloFrom X.env.cells scope.names []) (.ref t) pm (.ref c') ctv)) (hfn : H f = none) (hfr : f ∉ frs X.stack)
    (hf2 : s.heap.get? t = some (obT u)) (hfn2 : H t = none) (hfr2 : t ∉ frs X.stack) (hb : BindD params body scope a)
    (hbody : ∀ (A : Around) (outer : List Env) (s : Shared) (H : Hp) (E : XK), Room k (A.deeper (lamEnv X scope s.heap.objs.size f c')) → PE (lamCx X A outer s H E scope f c') body (tb E)) :
    CallF X.prog X.w X.K X.mg X.base k (frs X.stack) H s.heap f c' (X.env.qual ++ "<lambda>") (fun E HZ Q => tb E σ HZ Q) := by
  intro A outer s1 HZ Q E hr e0 un hc ht
  have none_ : ∀ {b : Addr}, b ∉ ([] : List Addr) := fun {b} z => nomatch z
  have g1 := un.keep f _ hf hfn hfr none_
  have g2 := un.keep t _ hf2 hfn2 hfr2 none_
  obtain ⟨⟨oc, vs, tq, hoc, hdc, hvc⟩, _, _⟩ := e0.hok c' _ hc
  have lim : s1.heap.NoLimit := e0.mod.nolimit.keeps fun b o e => (e0.bs b o e).1
  obtain ⟨bk, e1, e2⟩ := hb.1 (X.env.qual ++ "<lambda>") (cloFrom X.env.cells scope.names []) t pm (.ref c') ctv u
  refine ⟨⟨_, _, _, _, g1⟩, PySem.W.kla_callFunE hr.depth g1 rfl L.co L.gen rfl ⟨c', oc, vs, tq, rfl, hoc, hdc, hvc⟩ ?_⟩
  rw [e1]
  refine wpAny_bind (wpAny_seqItems g2 rfl ?_)
  rw [e2]
  refine wpAny_pure (wpAny_newFunctionEnv (fun y hy => L.cel y hy) (fun y hy => ?_) (fun h₁ hns hsb => ⟨lim.fresh _ hsb, ?_⟩) L.kind)
  · rw [List.mem_singleton.mp hy]
    exact hb.2
  · show codeAny _ _ (.expr body (lamEnv X scope s1.heap.objs.size f c')) _ _
    have kp : ∀ b o, s1.heap.get? b = some o → h₁.get? b = some o := fun b o e => hsb.extBut b o (Nat.ne_of_lt (Heap.lt_size e)) (Heap.get?_push_of_some _ e)
    refine PySem.W.kla_codeExpr (wpAny_mono ((hbody _ _ s1 HZ E (hr.deeper _)).run [] _ _ HZ Q (lam_startD I L e0 hr.hd un hns kp) ht) (fun v s' ⟨w', H', J', rv, q⟩ => ?_) fun e s' hq => hq)
    exact ⟨w', H', J'.os, J'.bare, J'.base, J'.hok, rv, q⟩
end
section
variable {X : Cx}
theorem pe_lamD {T : List (Addr × Str)} {TT : (XK → Hp → VK → Prop) → Hp → VK → Prop} {x a : Str} {c P : Addr} {kk j k ki : Nat} {z : Int} {params : Arguments} {body : Expr} {scope : Scope} {t : XK → TE} {p lpos pos kp : Pos} (G : PrC X.prog X.w X.K X.mg X.base x kk j TT) (hg : Gl X x)
    (TB : TabB X.base X.mg c P) (hcode : X.env.code = .ref c) (hmT : (P, X.env.qual ++ "<lambda>") ∈ T) (hu : ∀ p ∈ T, p.1 = P → p.2 = X.env.qual ++ "<lambda>") (hr : Room k X.A) (hj : j ≤ k) (L : LamN X.N X.env.scope scope) (hdef : defaultsOf params X.env = ([eval (.Constant (.int z) ki kp) X.env], []))
    (hb : BindD params body scope a)
    (hbody : ∀ (A : Around) (outer : List Env) (s : Shared) (H : Hp) (E : XK) (f c' : Addr), Room kk (A.deeper (lamEnv X scope s.heap.objs.size f c')) → PE (lamCx X A outer s H E scope f c') body (t E))
    (hdb : (x == ("__debug__" : Str)) = false := by decide) :
    PE X (.Call (.Name x p) [.Lambda params body scope lpos] [] pos) (tLam T TT t) := by
  obtain ⟨g, hm, hk, F⟩ := G
  refine ⟨fun pins s σ H Q I h => ?_⟩
  obtain ⟨hT, h⟩ := h
  refine wpAny_Call_Name_kw (ld_glob I hg hm ?_ hdb)
  refine PySem.W.callWith_K (h₀ := X.base) I.ok.mod.kin hk ?_ (by rfl) (by rfl)
  show wpAny _ _ (spliced ((false, eval (.Lambda params body scope lpos) X.env) :: backTo pos (starEach [] X.env))) _ _ s
  refine Calls.spliced_cons (lam_makeD I TB hcode hmT hu hT hdef (L.has I.ok) fun f c' tt pm' ctv tk H1 s' I1 eN T1 hf hfn hfr hf2 hfn2 hfr2 hco => ?_)
  refine Calls.spliced_nil ⟨I1.kIn, ?_⟩
  have rc := F X.A X.stack s' H1 f c' (X.env.qual ++ "<lambda>") (fun E H' Q' => t E σ H' Q') Q (hr.mono hj) I1.env0 (callF_ofD (k := kk) I1 L hf hfn hfr hf2 hfn2 hfr2 hb fun A outer s H E hr2 => hbody A outer s H E f c' hr2) hco (h H1 eN T1)
  refine wpAny_call (codeAny_mono rc fun r s2 hq => ?_)
  cases r with
  | error e => exact (show False from hq).elim
  | ok fl =>
    cases fl with
    | ret u => exact I1.after hq
    | next => exact False.elim hq
    | brk => exact False.elim hq
    | cont => exact False.elim hq
end
end Eyes

set_option Elab.async false
set_option linter.all false
set_option maxRecDepth 100000
set_option maxHeartbeats 4000000
/-! What was handed on is asked within a try. -/
namespace Eyes
open PySem PySem.Spec PyProof.Rows L2 LamX
theorem pe_ask2 {CXg : CXT} {P : Program} {w : World} {K : PySem.W.Frag} {mg : Str → Option Value} {base : Heap} {Eg : XK} {Ng : List Str} {qg : Str} {sg : Scope} {g f c' : Addr} {cdg : Value} {A : Around} {outer : List Env} {s : Shared} {H : Hp} {k i : Nat} {a q : Str} {pn : List (Addr × Obj)} {xe : Value → Shared → Prop} {W : WX} {tl : XK → Hp → VK → Prop} {p1 p2 : Pos}
    (C : CallF P w K mg base k (frs outer) H s.heap f c' q tl)
    (tk : Takes ((cxOf CXg P w K mg base Ng qg sg g cdg A outer s H Eg).tr pn xe) W) (hr : Room (k + 1) (A.deeper (envOfC qg sg s.heap.objs.size g cdg)))
    (hN : Ng[i]? = some a) (hv : Vis sg a) (hd : (a == ("__debug__" : Str)) = false := by decide) (hcd : (a == ("__classdict__" : Str)) = false := by decide) :
    PE ((cxOf CXg P w K mg base Ng qg sg g cdg A outer s H Eg).tr pn xe) (.Call (.Name a p1) [] [] p2)
      (fun σZ HZ Q => σZ[i]? = some (some (.ref f)) ∧ HZ c' = some (CodeO c' q) ∧ ∃ (E1 : XK) (Q1 : VK), tl E1 HZ Q1 ∧ (∀ v H', Q1 v H' → Q v H') ∧ ∀ cls d H', E1 cls d H' → W cls d σZ H') := by
  refine ⟨fun pinsZ sZ σZ HZ Q IZ h => ?_⟩
  obtain ⟨hs, hc, E1, Q1, ht, hQ, hE⟩ := h
  refine wpAny_Call_Name_kw (thn ((pe_var (pos := p1) (i := i) hN hv hd hcd).run pinsZ sZ σZ HZ (fun v H1 => v = .ref f ∧ H1 = HZ) IZ ⟨.ref f, hs, rfl, rfl⟩) fun u s1 ⟨v, H1, I1, r1, q1⟩ => ?_)
  obtain ⟨ev, eH⟩ := q1
  subst ev
  rw [eH] at I1
  obtain rfl : u = Value.ref f := r1
  have un : Un (frs outer) [] H HZ s.heap s1.heap := I1.base
  obtain ⟨fa, rc⟩ := C _ _ s1 HZ Q1 E1 hr I1.env0 un hc ht
  refine PySem.W.callWith_F0 fa ?_
  refine wpAny_call (codeAny_mono rc fun r s' hq => ?_)
  cases r with
  | error e => exact tk e s' (XE.of_call I1 (fun cls d H' z => hE cls d H' z) hq)
  | ok fl =>
    cases fl with
    | ret u =>
      obtain ⟨v, H', a1, a2, a3, a4, a5, q1⟩ := hq
      exact I1.after ⟨v, H', a1, a2, a3, a4, a5, hQ v H' q1⟩
    | next => exact False.elim hq
    | brk => exact False.elim hq
    | cont => exact False.elim hq
end Eyes

set_option Elab.async false
set_option linter.all false
set_option maxRecDepth 100000
set_option maxHeartbeats 4000000
/-! Defs that make lambdas: their code object is named. -/
namespace Eyes
open PySem PySem.Spec PyProof.Rows L2 LamX
def FnAtC (K : PySem.W.Frag) (mg : Str → Option Value) (x : Str) (st : Stmt) (ps : List Str) (c : Addr) : Prop :=
  ∃ (f : Addr) (oc : Value) (od : Option Addr) (kV doc pm : Value) (an : Option Addr) (ct : Value) (osl : Array (Option Value)), K.lookup f = some ⟨oc, od, .func (PySem.W.fnOf x x (defArgs st) (defBody st) (defScope st) .none kV doc pm an (.ref c) ct), osl⟩ ∧ PySem.W.codeIn K (.ref c) x = true ∧ PySem.W.keepIn K (.ref f) = true ∧
    Binds K (PySem.W.fnOf x x (defArgs st) (defBody st) (defScope st) .none kV doc pm an (.ref c) ct) ps [] ∧ mg x = some (.ref f)
section
variable {P : Program} {w : World} {K : PySem.W.Frag} {mg : Str → Option Value} {base : Heap}
theorem fnAtC_mk {h : Heap} (X : K.In h) (G : h.Ns mainGlobals mg) {x : Str} {st : Stmt} {ps : List Str} {f c : Addr} {oc : Value} {od an : Option Addr} {osl : Array (Option Value)} {kV doc pm ct : Value} (a : PySem.W.nsIn K mainGlobals x = some (some (.ref f)))
    (l : K.lookup f = some ⟨oc, od, .func (PySem.W.fnOf x x (defArgs st) (defBody st) (defScope st) .none kV doc pm an (.ref c) ct), osl⟩) (cd : PySem.W.codeIn K (.ref c) x = true) (k : PySem.W.keepIn K (.ref f) = true) (hb : BindH x x st ps) : FnAtC K mg x st ps c :=
  ⟨f, oc, od, kV, doc, pm, an, ct, osl, l, cd, k, (fun_mk l cd k).binds hb, PySem.W.mg_of X G a⟩
theorem pr_mkC {x : Str} {st : Stmt} {N ps : List Str} {k : Nat} {c : Addr} {sp : Sp} (A : FnAtC K mg x st ps c) (S : FnScope N ps (defScope st)) (len : ∀ vs H Q E, sp vs H Q E → vs.length = ps.length)
    (hbody : ∀ (f : Addr) (A : Around) (outer : List Env) (s : Shared) (H : Hp) (vs : List V) (Q : VK) (E : XK), Room k (A.deeper (envOfC x (defScope st) s.heap.objs.size f (.ref c))) → sp vs H Q E →
      ∃ t, PSs (cxOf CX0 P w K mg base N x (defScope st) f (.ref c) A outer s H E).nox (defBody st) t ∧ t { nx := fun _ H' => Q .non H', rt := Q } (start N vs) H) : Pr P w K mg base x st ps (k + 1) sp := by
  obtain ⟨f, oc, od, kV, doc, pm, an, ct, osl, lk, hcd, kp, hb, hm⟩ := A
  refine ⟨f, _, hm, fun_mk lk hcd kp, hb, fn_of lk hcd S len fun A outer s H vs Q E hr hsp => ?_⟩
  obtain ⟨t, h, q⟩ := hbody f A outer s H vs Q E hr hsp
  exact ⟨t, h.nox, q⟩
theorem codeHd_mk {h : Heap} {c T : Addr} {o : Obj} {vs : Array Value} {file : Str} {tf tg tt : Tok} {flags text : Int} {inF : Bool} (X : K.In h) (l : K.lookup c = some o) (h1 : o.cls = .type "code") (h2 : o.data = .fields vs) (h3 : vs[11]? = some (.ref T)) (h4 : vs.getD 11 .none = .ref T) (h5 : vs.getD 18 .none = .str file tf)
    (h6 : vs.getD 7 .none = .int flags tg) (h7 : vs.getD 9 .none = .bool inF) (h8 : vs.getD 10 .none = .int text tt) (n : c ≠ T) : PySem.W.CodeHd h c T :=
  ⟨o, vs, file, tf, flags, tg, inF, text, tt, X _ _ l, h1, h2, h3, h4, h5, h6, h7, h8, n⟩
end
theorem tabs_new {T : List (Addr × Str)} {H : Hp} (h : ∀ p ∈ T, H p.1 = some (.tbl #[])) : Tabs T H := fun p hp => by
  refine ⟨#[], h p hp, ?_, fun pos cv z => ?_⟩
  · trivial
  · cases z
end Eyes

set_option Elab.async false
set_option linter.all false
set_option maxRecDepth 100000
set_option maxHeartbeats 4000000
/-! Defs of a star parameter alone, which may raise. -/
namespace Eyes
open PySem PySem.Spec PyProof.Rows L2
def FnAtR (K : PySem.W.Frag) (mg : Str → Option Value) (x : Str) (st : Stmt) : Prop := ∃ (f : Addr) (fd : FuncData), Fun K x x st f fd ∧ mg x = some (.ref f)
def PrR (P : Program) (w : World) (K : PySem.W.Frag) (mg : Str → Option Value) (base : Heap) (x : Str) (k : Nat) (sp : Sp) : Prop :=
  ∃ f : Addr, mg x = some (.ref f) ∧ PySem.W.keepIn K (.ref f) = true ∧ FnR P w K mg base (L2.CX P w) k f sp
def spStar (sp : Sp) : Sp := fun vs H Q E => vs.length ≤ sizeLine ∧ ∀ p, H p = none → sp [.ref p] (upd H p (.tup vs)) Q E
abbrev BindStar (x : Str) (st : Stmt) (a : Str) : Prop := ∀ (kV doc pm : Value) (an : Option Addr) (cdv ct : Value) (rest : List Value), bindArgs (PySem.W.fnOf x x (defArgs st) (defBody st) (defScope st) .none kV doc pm an cdv ct) ⟨rest, []⟩ = (newTuple rest >>= fun t => pure [(a, t)])
section
variable {P : Program} {w : World} {K : PySem.W.Frag} {mg : Str → Option Value} {base : Heap}
end
section
variable {X : Cx} {x : Str} {sp : Sp} {E : XK} {e : Expr} {es : List Expr} {p pos : Pos} {t : TA} {j k : Nat}
end
end Eyes

set_option Elab.async false
set_option linter.all false
set_option maxRecDepth 100000
set_option maxHeartbeats 4000000
/-! enumerate(tuple) in a for. -/
namespace Eyes
open PySem PySem.Spec PyProof.Rows L2
theorem meets_enum1 {v : Value} {o : Obj} {HB : Heap → Prop} (B : Begins v o HB) :
    Meets (Builtin.«enumerate.__new__» ⟨[.type "enumerate", v], []⟩) (fun _ R s => HB s.heap ∧
      R (.ok (.ret (.ref (s.heap.push o).objs.size))) { s with heap := (s.heap.push o).push { cls := .type "enumerate", data := .fields #[.none, .bool false, .ref s.heap.objs.size, rawInt 0, .none, .none] } }) :=
  .of_wp fun prog w A R s h => by
    obtain ⟨hp, g, d, tk, os⟩ := s
    obtain ⟨h1, h⟩ := h
    have sub1 := sub_enumerate
    have it1 : ∀ {A' : Around} {E : Value → Shared → Prop} {Q : Value → Shared → Prop}, Q (.ref hp.objs.size) ⟨hp.push o, g, d, tk, os⟩ → wpAny (model prog w) A' (pyIter v) Q E ⟨hp, g, d, tk, os⟩ := fun q => B.iter prog w _ _ ⟨hp, g, d, tk, os⟩ _ h1 q
    wp_walk using it1
    refine wpAny_stack_any fun st => wpAny_pure ?_
    split
    · rename_i c _ _ _ _ _
      cases (c == Value.type "enumerate")
      · wp_walk using it1
        exact ⟨_, rfl, h⟩
      · wp_walk using it1
        exact ⟨_, rfl, h⟩
    · wp_walk using it1
      exact ⟨_, rfl, h⟩
section
variable {prog : Program} {w : World} {A : Around} {E : Value → Shared → Prop} {s : Shared}
theorem enum1_begins {v : Value} {o : Obj} {HB : Heap → Prop} {Q : Value → Shared → Prop} (B : Begins v o HB) (h1 : HB s.heap)
    (q : ∀ h', IsEnum h' (s.heap.objs.size + 1) s.heap.objs.size 0 .none → h'.get? s.heap.objs.size = some o → h'.objs.size = s.heap.objs.size + 2 → (∀ b u, s.heap.get? b = some u → h'.get? b = some u) → Q (.ref (s.heap.objs.size + 1)) { s with heap := h' }) :
    wpAny (model prog w) A (call (.type "enumerate") [v]) Q E s := by
  refine callType_new PySem.F.called_enumerate (by decide) (PySem.F.typeCall_enumerate_1 _) (PySem.F.newCall_enumerate_1 _) (fun ob => PySem.F.args_object_init_2 ob _) PySem.F.entry_enumerate_new (meets_enum1 B) ⟨h1, ?_⟩
  have z1 : (s.heap.push o).objs.size = s.heap.objs.size + 1 := Heap.size_push ..
  show _ ∧ _
  rw [z1]
  have en : IsEnum ((s.heap.push o).push { cls := .type "enumerate", data := .fields #[.none, .bool false, .ref s.heap.objs.size, rawInt 0, .none, .none] }) (s.heap.objs.size + 1) s.heap.objs.size 0 .none := by
    have y := Heap.get?_push_size (s.heap.push o) (o := { cls := .type "enumerate", data := .fields #[.none, .bool false, .ref s.heap.objs.size, rawInt 0, .none, .none] }) rfl
    rw [z1] at y
    exact y
  exact ⟨⟨_, en, rfl⟩, q _ en (Heap.get?_push_of_some _ (Heap.get?_push_size _ B.free)) (by rw [Heap.size_push, z1]) fun b u x => Heap.get?_push_of_some _ (Heap.get?_push_of_some _ x)⟩
end
def IteT (K : PySem.W.Frag) (a : Addr) (k : Int) : It :=
  ⟨fun i H => ∃ (xs : List V) (x : V), SqT K H a xs ∧ xs[i]? = some x, fun i H v H' => ∃ T x, v = .ref T ∧ H T = none ∧ H' = upd H T (.tup [.int (k + (i : Nat)), x]) ∧ ∀ xs, SqT K H a xs → xs[i]? = some x, fun i H => ∃ xs : List V, SqT K H a xs ∧ xs.length ≤ i⟩
theorem turn_enumT {P : Program} {w : World} {K : PySem.W.Frag} {elts : List Expr} {kk : Nat} {tpos : Pos} (a e it : Addr) (k : Int) (nai : a ≠ it) :
    Turn P w K (.Tuple elts kk tpos) (IteT K a k) [e, it] e (fun i h => (∃ old, IsEnum h e it (k + (i : Nat)) old) ∧ h.IsTupleIter it a i ∧ e ≠ it ∧ a ≠ e) where
  mem := by simp
  obj := fun i h st b hb => by
    obtain ⟨⟨old, he⟩, ⟨o, ho, hc, hd⟩, _⟩ := st
    rcases (show b = e ∨ b = it by simpa using hb) with z | z
    · rw [z]
      exact ⟨_, he, fun v q => nomatch q⟩
    · rw [z]
      exact ⟨o, ho, fun v q => by rw [hd] at q; cases q⟩
  keep := fun i h h' st kp => by
    obtain ⟨⟨old, he⟩, hi, hne, hna⟩ := st
    exact ⟨⟨old, kp e (by simp) _ he⟩, hi.at fun o q => kp it (by simp) o q, hne, hna⟩
  item := by
    intro X hP hw hK hc i pins s σ H E I hf st hg
    subst hP hw hK
    obtain ⟨⟨old, he⟩, hit, hne, hna⟩ := st
    obtain ⟨xs, x, hq, hx⟩ := hg
    obtain ⟨its, rv, p, hz⟩ := I.tuple hq
    obtain ⟨u, hu, ru⟩ := rv.get hx
    have el : e < s.heap.objs.size := Heap.lt_size he
    have il : it < s.heap.objs.size := by
      obtain ⟨_, q, _⟩ := hit
      exact Heap.lt_size q
    have isT : s.heap.IsTuple a its.toArray := by
      obtain ⟨o, e1, e2, n, e3⟩ := p
      exact ⟨o, e1, e2, n, e3⟩
    have lti : i < its.length := by
      rcases Nat.lt_or_ge i its.length with z | z
      · exact z
      · rw [List.getElem?_eq_none z] at hu
        cases hu
    have D := Draws.tuple (prog := X.prog) (w := X.w) (A := X.A.in1) (by have := I.ok.hd hc; simpa using this) it a nai its.toArray
    refine wpAny_pyNext_enum_itemC D he ⟨hit, isT⟩ (by simpa using lti) hne (by simp [hne, Ne.symm hna]) fun y h' tk hy ho hst hT hsz hk => ?_
    have ey : y = u := by
      have z : its.toArray[i]? = some y := hy
      rw [List.getElem?_toArray, hu] at z
      exact (Option.some.inj z).symm
    subst ey
    refine ⟨_, rfl, wpAny_letOwnedTupleGo_enum (s := { s with heap := h', toks := tk + 1 }) ho fun h2 he2 sb => ?_⟩
    have T2 : h2.get? s.heap.objs.size = some { cls := .type "tuple", data := .seq #[.int (k + (i : Nat)) tk, y] } := (sb.2 _ (Nat.ne_of_gt el)).trans hT
    have new : ObjOk X.prog X.w (upd H s.heap.objs.size (.tup [.int (k + (i : Nat)), x])) h2 s.heap.objs.size (.tup [.int (k + (i : Nat)), x]) :=
      ⟨by show 2 ≤ sizeLine; decide, [.int (k + (i : Nat)) tk, y], .cons ⟨_, rfl⟩ (.cons ru .nil), ⟨_, T2, rfl, _, rfl⟩⟩
    have I1 : Inv X pins σ (upd H s.heap.objs.size (.tup [.int (k + (i : Nat)), x])) { s with heap := h2, toks := tk + 1 } :=
      I.turnedNew (ch := [e, it]) (fun b ob hb q => (sb.2 b (fun z => hb (by simp [z]))).trans (hk b ob (fun z => hb (by simp [z])) (fun z => hb (by simp [z])) q)) hf (Nat.le_refl _) new
    refine ⟨.ref s.heap.objs.size, _, I1, rfl, ⟨_, x, rfl, I.hok.fresh (Nat.le_refl _), rfl, fun ys hy => by rw [I.tuple_inj hy hq]; exact hx⟩, ⟨⟨y, ?_⟩, hst.1.at fun o q => (sb.2 it (Ne.symm hne)).trans q, hne, hna⟩, fun b hb => ?_⟩
    · rw [show (k + ((i + 1 : Nat) : Int)) = k + (i : Nat) + 1 by omega]
      exact he2
    · have lt : b < s.heap.objs.size := by
        rcases (show b = e ∨ b = it by simpa using hb) with z | z
        · rw [z]; exact el
        · rw [z]; exact il
      rw [upd_ne (Nat.ne_of_lt lt)]
      exact (hf b hb).1
  done := by
    intro X hP hw hK hc i pins s σ H E I hf st hg
    subst hP hw hK
    obtain ⟨⟨old, he⟩, hit, hne, hna⟩ := st
    obtain ⟨xs, hq, hx⟩ := hg
    obtain ⟨its, rv, p, hz⟩ := I.tuple hq
    have isT : s.heap.IsTuple a its.toArray := by
      obtain ⟨o, e1, e2, n, e3⟩ := p
      exact ⟨o, e1, e2, n, e3⟩
    obtain ⟨f0, f1, f2, f3, f4, f5⟩ := hf it (by simp)
    have hl := rv.length
    have hh : X.A.in1.in1.handled = none := by have := I.ok.hd hc; simpa using this
    -- what is behind the end: a draw of a tuple as long as the count
    have stop : ∀ (Q : Value → Shared → Prop) (E : Value → Shared → Prop), (∀ h' e, Heap.ExtBut it s.heap h' → (∃ o, h'.get? e = some o ∧ o.cls = .type "StopIteration") → E (.ref e) { s with heap := h' }) → wpAny (model X.prog X.w) X.A.in1 (Builtin.SmallTypes.nextOf (.ref it)) Q E s :=
      fun Q E hE => wpAny_nextOf_tuple_end (by have := I.ok.hd hc; simpa using this) hit isT (by simp; omega) hE
    have hT : s.TypeIs (.ref e) "enumerate" := ⟨_, he, rfl⟩
    unfold pyNext
    refine wpAny_bind (wpAny_attempt (wpAny_callSpecial?_slot (name := Str.ofString "__next__") hT PySem.F.slot_enumerate_next (wpAny_call_entry PySem.F.slot_enumerate_next hT PySem.F.entry_enumerate_next ?_ (PySem.F.args_enumerate_next_1 _))))
    show wpAny _ _ (field (.ref e) 2 >>= _) _ _ _
    refine wpAny_bind (wpAny_field he rfl (x := .ref it) rfl (wpAny_bind (stop _ _ fun h' x eb hx' => ?_)))
    obtain ⟨o, ho, hc'⟩ := hx'
    refine wpAny_bind (wpAny_isInstance (T := "StopIteration") (b := true) ⟨o, ho, hc'⟩ isSubtype_stop (wpAny_pure ?_))
    exact ⟨rfl, I.turned (t' := s.toks) (fun b o hb q => eb b o hb q) f0 f1 f3 f4 f5⟩
  self := fun A i s Q E st h => by
    obtain ⟨⟨_, he⟩, _⟩ := st
    exact wpAny_pyIter_enum he h
def iEnumT (K : PySem.W.Frag) (ta : TA) : TI := fun σ H R => ta σ H fun vs H1 => ∃ a xs, vs = [.ref a] ∧ SqT K H1 a xs ∧ R (IteT K a 0) H1
theorem pi_enumT {X : Cx} {e : Expr} {ta : TA} {p pos tpos : Pos} {elts : List Expr} {kk : Nat} (hg : Gl X "enumerate") (hm : X.mg "enumerate" = none) (ha : PA X [e] ta) (hs : starEach [e] X.env = [(false, eval e X.env)] := by rfl) :
    PI X (.Tuple elts kk tpos) (.Call (.Name "enumerate" p) [e] [] pos) (iEnumT X.K ta) := by
  refine ⟨fun pins s σ H R I h => ?_⟩
  refine Call_ (ld_blt I hg hm boot_enumerate (PyProof.Rows.callWith_type1 (thn (ha.run pos pins s σ H _ I h) fun us s1 ⟨vs, H1, I1, r1, a, xs, ex, hq, q⟩ => ?_) hs rfl))
  subst ex
  obtain rfl := Vals.ref1 r1
  obtain ⟨its, rv, tp, hz⟩ := I1.tuple hq
  have isT : s1.heap.IsTuple a its.toArray := by
    obtain ⟨o, e1, e2, n, e3⟩ := tp
    exact ⟨o, e1, e2, n, e3⟩
  have al : a < s1.heap.objs.size := by
    obtain ⟨o, e1, _⟩ := isT
    exact Heap.lt_size e1
  refine enum1_begins (begins_tuple a its.toArray) isT fun h' he hit hsz hk => wpAny_pyIter_enum he ?_
  have I2 : Inv X pins σ H1 { s1 with heap := h' } := I1.kept (t' := s1.toks) hk
  refine ⟨s1.heap.objs.size + 1, [s1.heap.objs.size + 1, s1.heap.objs.size], _, _, H1, rfl, I2, turn_enumT a (s1.heap.objs.size + 1) s1.heap.objs.size 0 (Nat.ne_of_lt al), ⟨⟨.none, by simpa using he⟩, ⟨_, hit, rfl, rfl⟩, Nat.succ_ne_self _, Nat.ne_of_lt (Nat.lt_succ_of_lt al)⟩, fun b hb => ?_, q⟩
  have hle : s1.heap.objs.size ≤ b := by
    rcases (show b = s1.heap.objs.size + 1 ∨ b = s1.heap.objs.size by simpa using hb) with z | z
    · rw [z]; exact Nat.le_add_right _ _
    · rw [z]; exact Nat.le_refl _
  exact I1.fpOk hle (I1.hok.fresh hle)
theorem walk_enumT {K : PySem.W.Frag} {a : Addr} {k : Int} {xs : List V} : Walk (IteT K a k) xs.length (fun H => SqT K H a xs) (YPair (fun i => some (.int (k + (i : Nat)))) (fun i => xs[i]?)) := by
  refine ⟨fun i H hi q => ⟨xs, xs[i], q, by simp [hi]⟩, fun H q => ⟨xs, q, Nat.le_refl _⟩, fun i H v H' hi q y => ?_⟩
  obtain ⟨T, x, h1, h2, h3, h4⟩ := y
  exact ⟨T, _, x, h1, h2, h3, rfl, h4 xs q⟩
end Eyes

set_option Elab.async false
set_option linter.all false
set_option maxRecDepth 100000
set_option maxHeartbeats 4000000
/-! sorted(set(texts)). -/
namespace Eyes
open PySem PySem.Spec PyProof.Rows L2
def txtE (e : Int × Value) : Str := match e.2 with | .str z _ => z | _ => Str.empty
def IsTxt (w : World) (e : Int × Value) : Prop := ∃ z tk, e.2 = Value.str z tk ∧ e.1 = hashStr w z
def TxtSet (w : World) (h : Heap) (a : Addr) (L : List Str) : Prop :=
  ∃ ob ee pp tt, h.get? a = some ob ∧ ob.ExactSet ∧ ob.data = .set ee pp tt ∧ (∀ e ∈ ee.toList, IsTxt w e) ∧ ee.toList.map txtE = L ∧ L.Nodup ∧ ee.size < scanBound ∧ tt.fits ee.size = true ∧ Ris tt.place.toList ∧ (w.params.followText "set-order" = true ∨ tt.led = true)
section
variable {P : Program} {w : World}
end
section
variable {P : Program} {w : World} {A : Around} {E : Value → Shared → Prop} {s : Shared} {a : Addr}
theorem TxtSet.at {h h' : Heap} {L : List Str} (T : TxtSet w h a L) (k : ∀ o, h.get? a = some o → h'.get? a = some o) : TxtSet w h' a L := by
  obtain ⟨o, e, p, t, ho, r⟩ := T
  exact ⟨o, e, p, t, k o ho, r⟩
abbrev noSet (w : World) : Obj := { cls := .type "set", dict := none, data := .set #[] 0 (.fresh 0 0 (!w.params.followText "set-order")) }
end
/-! ### set(texts) -/
section
variable {P : Program} {w : World} {A : Around} {R : Result → Shared → Prop} {I : Addr} {fp wr : List Addr} {G : Array GenState → Array GenState → Prop} {n : Nat} {Pv : Nat → Value → Prop} {St : Nat → Shared → Prop}
end
end Eyes

set_option Elab.async false
set_option linter.all false
set_option maxRecDepth 100000
set_option maxHeartbeats 8000000
namespace Eyes
open PySem PySem.Spec PyProof.Rows L2
section
variable {P : Program} {w : World} {A : Around} {E : Value → Shared → Prop} {s : Shared}
theorem new_set1 (v : Value) {Q1 : Value → Shared → Prop} (q : Q1 (.ref s.heap.objs.size) { s with heap := s.heap.push (noSet w) }) :
    codeAny (model P w) A (.call (.builtin "set.__new__") ⟨[.type "set", v], []⟩) (wants Q1 E) s := by
  refine codeAny_of_tree ?_
  show wpAny _ A.in1 (do checkBuiltinCall "set.__new__" ⟨[.type "set", v], []⟩; again (.builtin "set.__new__" ⟨[.type "set", v], []⟩)) _ _ s
  refine wpAny_bind (wpAny_of_eq (PySem.F.newCall_set_1 v) (wpAny_pure ⟨plainId_quiet PySem.F.plain_set_new _, codeAny_builtin PySem.F.entry_set_new ?_⟩))
  rw [Around.under_plainId PySem.F.plain_set_new _]
  unfold Builtin.«set.__new__» Builtin.Frozenset.newClass
  have subS := sub_set_self
  obtain ⟨hp, g, d, tk, os⟩ := s
  dsimp only
  wp_walk
  refine wpAny_askSetting (wpAny_pure ?_)
  dsimp only
  simp only [newObj]
  exact wpAny_bind (wpAny_alloc (wpAny_pure (wpAny_pure q)))
end
def tSortedSet (K : PySem.W.Frag) (te : TE) : TE := fun σ H Q => te σ H fun x H1 => ∃ (a : Addr) (xs : List Str), x = .ref a ∧ SqL K H1 a (xs.map V.str) ∧ xs.length < 64 ∧
  ∀ (ys : List Str) (p : Addr), sortedS ys = true → ys.Nodup → (∀ y, y ∈ ys ↔ y ∈ xs) → H1 p = none → Q (.ref p) (upd H1 p (.lst (ys.map V.str)))
section
variable {X : Cx} {K : PySem.W.Frag} {e : Expr} {te : TE} {p1 p2 q1 q2 : Pos}
end
end Eyes

set_option Elab.async false
set_option linter.all false
set_option maxRecDepth 100000
set_option maxHeartbeats 4000000
/-! Rules of mine: len() of own instances, len(range(..)), methods called with keywords, __init__ with defaults. -/
namespace Eyes
open PySem PySem.Spec PyProof.Rows L2
def rLenOwn (C : Addr) (sp : Sp) : List V → Hp → VK → Prop := fun xs H Q => ∃ a dx fs, xs = [.ref a] ∧ H a = some (.ins C dx fs) ∧ sp [.ref a] H (fun v H' => ∃ n : Nat, v = .int (n : Int) ∧ n < 4294967296 ∧ Q v H') (fun _ _ _ => False)
section
variable {X : Cx} {C : Addr} {j k : Nat} {ps : List Str} {sp : Sp} {nm : Str}
end
def tLenRg (te : L2.St → Hp → (Int → Int → Hp → Prop) → Prop) : TE := fun σ H Q => te σ H fun a b H1 => RgOk a b ∧ Q (.int (((b - a).toNat : Nat) : Int)) H1
section
variable {X : Cx} {e : Expr} {te : L2.St → Hp → (Int → Int → Hp → Prop) → Prop}
end
def PrMF (P : Program) (w : World) (K : PySem.W.Frag) (mg : Str → Option Value) (base : Heap) (C : Addr) (m qual : Str) (st : Stmt) (ps : List Str) (k : Nat) (sp : Sp) : Prop :=
  ∃ (f : Addr) (fd : FuncData), Meth K C m f ∧ Fun K m qual st f fd ∧ Binds K fd ps [] ∧ FnOk P w K mg base CX0 k f fd ps sp
def KwOkM (m qual : Str) (st : Stmt) (ps ks : List Str) (is : List Nat) : Prop :=
  ∀ (kV doc pm : Value) (an : Option Addr) (cdv ct : Value) (us ws : List Value), us.length = 1 → ws.length = ks.length → bindArgs (PySem.W.fnOf m qual (defArgs st) (defBody st) (defScope st) .none kV doc pm an cdv ct) ⟨us, ks.zip ws⟩ = pure (ps.zip (pick is (us ++ ws)))
def tMethN (C : Addr) (m : Str) (n : Nat) (sp : Sp) (is : List Nat) (ta : TE) (tk : TA) : TE := fun σ H Q => ta σ H fun x H1 => ∃ a dx fs, x = .ref a ∧ H1 a = some (.ins C dx fs) ∧ fs.lookup m = none ∧ tk σ H1 fun zs H2 => zs.length = n ∧ sp (pick is ([x] ++ zs)) H2 Q (fun _ _ _ => False)
section
variable {P : Program} {w : World} {K : PySem.W.Frag} {mg : Str → Option Value} {base : Heap}
theorem PrMF.m {C : Addr} {m qual : Str} {st : Stmt} {ps : List Str} {k : Nat} {sp : Sp} (G : PrMF P w K mg base C m qual st ps k sp) : PrM P w K mg base C m ps k sp := by
  obtain ⟨f, fd, M, F, hb, R⟩ := G
  exact ⟨f, fd, M, hb, R⟩
end
section
variable {X : Cx} {C : Addr} {j k : Nat} {ps ks : List Str} {is : List Nat} {sp : Sp} {m qual : Str} {st : Stmt} {o : Expr} {kws : List Keyword} {apos pos : Pos} {ta : TE} {tk : TA}
end
def InitAtD (K : PySem.W.Frag) (C : Addr) (qual : Str) (st : Stmt) (ps : List Str) : Prop :=
  ∃ (f : Addr) (fd : FuncData) (dvs : List V), L2.Mk K C f ∧ FunD K "__init__" qual (defArgs st) (defBody st) (defScope st) dvs [] f fd ∧ Binds K fd ps []
abbrev BindHD (x qual : Str) (st : Stmt) (ps : List Str) : Prop := ∀ (T : Addr) (kV doc pm : Value) (an : Option Addr) (cdv ct : Value) (us its : List Value), us.length = ps.length → its.length = 1 →
  ∃ k, bindArgs (PySem.W.fnOf x qual (defArgs st) (defBody st) (defScope st) (.ref T) kV doc pm an cdv ct) ⟨us, []⟩ = seqItems? (.ref T) >>= k ∧ k (some its.toArray) = pure (ps.zip us)
section
variable {P : Program} {w : World} {K : PySem.W.Frag} {mg : Str → Option Value} {base : Heap}
end
end Eyes

set_option Elab.async false
set_option linter.all false
set_option maxRecDepth 100000
set_option maxHeartbeats 4000000
/-! An __init__ whose last parameter defaults to (), called without it. -/
namespace Eyes
open PySem PySem.Spec PyProof.Rows L2
def InitD0 (K : PySem.W.Frag) (C : Addr) (qual : Str) (st : Stmt) (ps : List Str) : Prop :=
  ∃ (f : Addr) (fd : FuncData) (d : Addr) (ds : List Value), L2.Mk K C f ∧ FunD K "__init__" qual (defArgs st) (defBody st) (defScope st) [.ref d] [] f fd ∧ Vals [.ref d] ds ∧ Binds K fd ps ds ∧ ∀ H, SqT K H d []
abbrev BindHD0 (x qual : Str) (st : Stmt) (ps : List Str) : Prop := ∀ (T : Addr) (kV doc pm : Value) (an : Option Addr) (cdv ct : Value) (us its : List Value), us.length + 1 = ps.length → its.length = 1 →
  ∃ k, bindArgs (PySem.W.fnOf x qual (defArgs st) (defBody st) (defScope st) (.ref T) kV doc pm an cdv ct) ⟨us, []⟩ = seqItems? (.ref T) >>= k ∧ k (some its.toArray) = pure (ps.zip (us ++ its))
section
variable {P : Program} {w : World} {K : PySem.W.Frag} {mg : Str → Option Value} {base : Heap}
end
def PrI0 (P : Program) (w : World) (K : PySem.W.Frag) (mg : Str → Option Value) (base : Heap) (C : Addr) (ps : List Str) (k : Nat) (sp : Sp) : Prop :=
  ∃ (f : Addr) (fd : FuncData) (d : Addr) (ds : List Value), L2.Mk K C f ∧ Vals [.ref d] ds ∧ Binds K fd ps ds ∧ (∀ H, SqT K H d []) ∧ FnOk P w K mg base CX0 k f fd ps sp
section
variable {P : Program} {w : World} {K : PySem.W.Frag} {mg : Str → Option Value} {base : Heap}
end
def tMake0 (K : PySem.W.Frag) (C : Addr) (sp : Sp) (t : TA) : TE := fun σ H Q => ∀ d, (∀ H', SqT K H' d []) → tMake C sp [.ref d] (fun _ _ _ => False) t σ H Q
section
variable {X : Cx} {x : Str} {ps : List Str} {sp : Sp} {e : Expr} {es : List Expr} {p pos : Pos} {t : TA} {K : PySem.W.Frag}
end
end Eyes

set_option Elab.async false
set_option linter.all false
set_option maxRecDepth 100000
set_option maxHeartbeats 4000000
namespace Eyes
open PySem PySem.Spec PyProof.Rows L2 Evl TL
def topS (i : Nat) : Stmt := PySem.Challenge.pw_pooledeyes_k08_all_partings_told_in_orde.main.body.getD i (.Pass ⟨0, 0, 0, 0⟩)
abbrev s_InvalidName___init : Stmt := inClass (topS 2) 0
abbrev n_InvalidName___init : List Str := ["self", "value"]
abbrev p_InvalidName___init : List Str := ["self", "value"]
abbrev s_InvalidNumber___init : Stmt := inClass (topS 3) 0
abbrev n_InvalidNumber___init : List Str := ["self", "value"]
abbrev p_InvalidNumber___init : List Str := ["self", "value"]
theorem sc_InvalidNumber___init : FnScope n_InvalidNumber___init p_InvalidNumber___init (defScope s_InvalidNumber___init) := ⟨rfl, rfl, rfl, by decide +kernel, rfl, by decide +kernel, by decide +kernel⟩
abbrev s_InvalidText___init : Stmt := inClass (topS 4) 0
abbrev n_InvalidText___init : List Str := ["self", "at"]
abbrev p_InvalidText___init : List Str := ["self", "at"]
abbrev s_InvalidCircle___init : Stmt := inClass (topS 5) 0
abbrev n_InvalidCircle___init : List Str := ["self", "at"]
abbrev p_InvalidCircle___init : List Str := ["self", "at"]
abbrev s_InvalidTie___init : Stmt := inClass (topS 6) 0
abbrev n_InvalidTie___init : List Str := ["self", "at"]
abbrev p_InvalidTie___init : List Str := ["self", "at"]
abbrev s_InvalidParting___init : Stmt := inClass (topS 7) 0
abbrev n_InvalidParting___init : List Str := ["self", "value"]
abbrev p_InvalidParting___init : List Str := ["self", "value"]
theorem sc_InvalidParting___init : FnScope n_InvalidParting___init p_InvalidParting___init (defScope s_InvalidParting___init) := ⟨rfl, rfl, rfl, by decide +kernel, rfl, by decide +kernel, by decide +kernel⟩
abbrev s_InvalidCase___init : Stmt := inClass (topS 8) 0
abbrev n_InvalidCase___init : List Str := ["self", "value"]
abbrev p_InvalidCase___init : List Str := ["self", "value"]
abbrev s_TooMany___init : Stmt := inClass (topS 9) 0
abbrev n_TooMany___init : List Str := ["self", "what", "most"]
abbrev p_TooMany___init : List Str := ["self", "what", "most"]
abbrev s_is_number : Stmt := topS 12
abbrev n_is_number : List Str := ["value", "least", "most"]
abbrev p_is_number : List Str := ["value", "least", "most"]
theorem sc_is_number : FnScope n_is_number p_is_number (defScope s_is_number) := ⟨rfl, rfl, rfl, by decide +kernel, rfl, by decide +kernel, by decide +kernel⟩
abbrev s_is_parting : Stmt := topS 15
abbrev n_is_parting : List Str := ["value", "at"]
abbrev p_is_parting : List Str := ["value"]
theorem sc_is_parting : FnScope n_is_parting p_is_parting (defScope s_is_parting) := ⟨rfl, rfl, rfl, by decide +kernel, rfl, by decide +kernel, by decide +kernel⟩
abbrev s_is_item : Stmt := topS 16
abbrev n_is_item : List Str := ["row", "at"]
abbrev p_is_item : List Str := ["row", "at"]
theorem sc_is_item : FnScope n_is_item p_is_item (defScope s_is_item) := ⟨rfl, rfl, rfl, by decide +kernel, rfl, by decide +kernel, by decide +kernel⟩
abbrev s_lots_of : Stmt := topS 17
abbrev n_lots_of : List Str := ["parting", "lots", "case", "item", "lot"]
abbrev p_lots_of : List Str := ["parting"]
theorem sc_lots_of : FnScope n_lots_of p_lots_of (defScope s_lots_of) := ⟨rfl, rfl, rfl, by decide +kernel, rfl, by decide +kernel, by decide +kernel⟩
abbrev s_meet_of : Stmt := topS 18
abbrev n_meet_of : List Str := ["first", "second"]
abbrev p_meet_of : List Str := ["first", "second"]
theorem sc_meet_of : FnScope n_meet_of p_meet_of (defScope s_meet_of) := ⟨rfl, rfl, rfl, by decide +kernel, rfl, by decide +kernel, by decide +kernel⟩
abbrev s_join_of : Stmt := topS 19
abbrev n_join_of : List Str := ["first", "second"]
abbrev p_join_of : List Str := ["first", "second"]
theorem sc_join_of : FnScope n_join_of p_join_of (defScope s_join_of) := ⟨rfl, rfl, rfl, by decide +kernel, rfl, by decide +kernel, by decide +kernel⟩
abbrev s_is_within : Stmt := topS 20
abbrev n_is_within : List Str := ["first", "second"]
abbrev p_is_within : List Str := ["first", "second"]
theorem sc_is_within : FnScope n_is_within p_is_within (defScope s_is_within) := ⟨rfl, rfl, rfl, by decide +kernel, rfl, by decide +kernel, by decide +kernel⟩
abbrev s_check_partings : Stmt := topS 21
abbrev n_check_partings : List Str := ["first", "second", "value"]
abbrev p_check_partings : List Str := ["first", "second"]
theorem sc_check_partings : FnScope n_check_partings p_check_partings (defScope s_check_partings) := ⟨rfl, rfl, rfl, by decide +kernel, rfl, by decide +kernel, by decide +kernel⟩
abbrev s_all_partings : Stmt := topS 22
abbrev n_all_partings : List Str := ["many", "rows", "case", "row", "item"]
abbrev p_all_partings : List Str := ["many"]
abbrev s_linked : Stmt := topS 23
abbrev n_linked : List Str := ["many", "pairs", "lead", "pair", "ends", "end", "case"]
abbrev p_linked : List Str := ["many", "pairs"]
theorem sc_linked : FnScope n_linked p_linked (defScope s_linked) := ⟨rfl, rfl, rfl, by decide +kernel, rfl, by decide +kernel, by decide +kernel⟩
abbrev s_by_keys : Stmt := topS 24
abbrev n_by_keys : List Str := ["keys", "firsts", "found", "case", "key"]
abbrev p_by_keys : List Str := ["keys"]
theorem sc_by_keys : FnScope n_by_keys p_by_keys (defScope s_by_keys) := ⟨rfl, rfl, rfl, by decide +kernel, rfl, by decide +kernel, by decide +kernel⟩
abbrev s_met : Stmt := topS 25
abbrev n_met : List Str := ["partings"]
abbrev p_met : List Str := ["partings"]
theorem sc_met : FnScope n_met p_met (defScope s_met) := ⟨rfl, rfl, rfl, by decide +kernel, rfl, by decide +kernel, by decide +kernel⟩
abbrev s_joined : Stmt := topS 26
abbrev n_joined : List Str := ["partings", "pairs", "parting", "case", "item"]
abbrev p_joined : List Str := ["partings"]
theorem sc_joined : FnScope n_joined p_joined (defScope s_joined) := ⟨rfl, rfl, rfl, by decide +kernel, rfl, by decide +kernel, by decide +kernel⟩
abbrev s_within : Stmt := topS 27
abbrev n_within : List Str := ["first", "second", "at", "item"]
abbrev p_within : List Str := ["first", "second"]
theorem sc_within : FnScope n_within p_within (defScope s_within) := ⟨rfl, rfl, rfl, by decide +kernel, rfl, by decide +kernel, by decide +kernel⟩
abbrev s_law_bag : Stmt := topS 29
abbrev n_law_bag : List Str := ["_law_script", "_law_mixed", "_law_piece"]
abbrev p_law_bag : List Str := ["_law_script"]
theorem sc_law_bag : FnScope n_law_bag p_law_bag (defScope s_law_bag) := ⟨rfl, rfl, rfl, by decide +kernel, rfl, by decide +kernel, by decide +kernel⟩
abbrev s_law_draw : Stmt := topS 30
abbrev n_law_draw : List Str := ["_law_bag_here", "_law_sides", "_law_piece", "_law_digit", "_law_state"]
abbrev p_law_draw : List Str := ["_law_bag_here", "_law_sides"]
theorem sc_law_draw : FnScope n_law_draw p_law_draw (defScope s_law_draw) := ⟨rfl, rfl, rfl, by decide +kernel, rfl, by decide +kernel, by decide +kernel⟩
abbrev s_law_of : Stmt := topS 31
abbrev n_law_of : List Str := ["_law_bag_here", "_law_things"]
abbrev p_law_of : List Str := ["_law_bag_here", "_law_things"]
theorem sc_law_of : FnScope n_law_of p_law_of (defScope s_law_of) := ⟨rfl, rfl, rfl, by decide +kernel, rfl, by decide +kernel, by decide +kernel⟩
abbrev s_law_same : Stmt := topS 32
abbrev n_law_same : List Str := ["_law_found", "_law_due", "_law_mark", "_law_x", "_law_y"]
abbrev p_law_same : List Str := ["_law_found", "_law_due"]
theorem sc_law_same : FnScope n_law_same p_law_same (defScope s_law_same) := ⟨rfl, rfl, rfl, by decide +kernel, rfl, by decide +kernel, by decide +kernel⟩
abbrev s_law_try : Stmt := topS 33
abbrev n_law_try : List Str := ["_law_ask", "e"]
abbrev p_law_try : List Str := ["_law_ask"]
theorem sc_law_try : FnScope n_law_try p_law_try (defScope s_law_try) := ⟨rfl, rfl, rfl, by decide +kernel, rfl, by decide +kernel, by decide +kernel⟩
abbrev s_law_why : Stmt := topS 34
abbrev n_law_why : List Str := ["_law_ask", "_law_found"]
abbrev p_law_why : List Str := ["_law_ask"]
theorem sc_law_why : FnScope n_law_why p_law_why (defScope s_law_why) := ⟨rfl, rfl, rfl, by decide +kernel, rfl, by decide +kernel, by decide +kernel⟩
abbrev s_law_odd : Stmt := topS 35
abbrev n_law_odd : List Str := ["_law_bag_here", "_law_more"]
abbrev p_law_odd : List Str := ["_law_bag_here", "_law_more"]
theorem sc_law_odd : FnScope n_law_odd p_law_odd (defScope s_law_odd) := ⟨rfl, rfl, rfl, by decide +kernel, rfl, by decide +kernel, by decide +kernel⟩
abbrev s_law_is_case : Stmt := topS 36
abbrev n_law_is_case : List Str := ["_law_thing", "_law_size"]
abbrev p_law_is_case : List Str := ["_law_thing", "_law_size"]
theorem sc_law_is_case : FnScope n_law_is_case p_law_is_case (defScope s_law_is_case) := ⟨rfl, rfl, rfl, by decide +kernel, rfl, by decide +kernel, by decide +kernel⟩
abbrev s_law_is_rows : Stmt := topS 37
abbrev n_law_is_rows : List Str := ["_law_thing", "_law_k"]
abbrev p_law_is_rows : List Str := ["_law_thing"]
theorem sc_law_is_rows : FnScope n_law_is_rows p_law_is_rows (defScope s_law_is_rows) := ⟨rfl, rfl, rfl, by decide +kernel, rfl, by decide +kernel, by decide +kernel⟩
abbrev s_law_merged : Stmt := topS 38
abbrev n_law_merged : List Str := ["_law_rows_here", "_law_couples", "_law_found", "_law_x", "_law_y", "_law_low", "_law_high", "_law_z"]
abbrev p_law_merged : List Str := ["_law_rows_here", "_law_couples"]
theorem sc_law_merged : FnScope n_law_merged p_law_merged (defScope s_law_merged) := ⟨rfl, rfl, rfl, by decide +kernel, rfl, by decide +kernel, by decide +kernel⟩
abbrev s_law_met : Stmt := topS 39
abbrev n_law_met : List Str := ["_law_p", "_law_q", "_law_both", "_law_x"]
abbrev p_law_met : List Str := ["_law_p", "_law_q"]
theorem sc_law_met : FnScope n_law_met p_law_met (defScope s_law_met) := ⟨rfl, rfl, rfl, by decide +kernel, rfl, by decide +kernel, by decide +kernel⟩
abbrev s_law_joined : Stmt := topS 40
abbrev n_law_joined : List Str := ["_law_p", "_law_q", "_law_k"]
abbrev p_law_joined : List Str := ["_law_p", "_law_q"]
theorem sc_law_joined : FnScope n_law_joined p_law_joined (defScope s_law_joined) := ⟨rfl, rfl, rfl, by decide +kernel, rfl, by decide +kernel, by decide +kernel⟩
abbrev s_law_inner : Stmt := topS 41
abbrev n_law_inner : List Str := ["_law_p", "_law_q", "_law_k"]
abbrev p_law_inner : List Str := ["_law_p", "_law_q"]
theorem sc_law_inner : FnScope n_law_inner p_law_inner (defScope s_law_inner) := ⟨rfl, rfl, rfl, by decide +kernel, rfl, by decide +kernel, by decide +kernel⟩
abbrev s_law_rows : Stmt := topS 42
abbrev n_law_rows : List Str := ["_law_bag_here", "_law_size", "_law_found", "_law_k", "_law_roots"]
abbrev p_law_rows : List Str := ["_law_bag_here", "_law_size"]
theorem sc_law_rows : FnScope n_law_rows p_law_rows (defScope s_law_rows) := ⟨rfl, rfl, rfl, by decide +kernel, rfl, by decide +kernel, by decide +kernel⟩
abbrev s_law_grown : Stmt := topS 43
abbrev n_law_grown : List Str := ["_law_size", "_law_found", "_law_k", "_law_longer", "_law_rows_here", "_law_x"]
abbrev p_law_grown : List Str := ["_law_size"]
theorem sc_law_grown : FnScope n_law_grown p_law_grown (defScope s_law_grown) := ⟨rfl, rfl, rfl, by decide +kernel, rfl, by decide +kernel, by decide +kernel⟩
abbrev s_law_count : Stmt := topS 44
abbrev n_law_count : List Str := ["_law_size", "_law_row", "_law_k", "_law_begun", "_law_x"]
abbrev p_law_count : List Str := ["_law_size"]
theorem sc_law_count : FnScope n_law_count p_law_count (defScope s_law_count) := ⟨rfl, rfl, rfl, by decide +kernel, rfl, by decide +kernel, by decide +kernel⟩
abbrev s_law_listed : Stmt := topS 45
abbrev n_law_listed : List Str := ["_law_size", "_law_found", "_law_rows_here"]
abbrev p_law_listed : List Str := ["_law_size"]
theorem sc_law_listed : FnScope n_law_listed p_law_listed (defScope s_law_listed) := ⟨rfl, rfl, rfl, by decide +kernel, rfl, by decide +kernel, by decide +kernel⟩
abbrev s_law : Stmt := topS 46
abbrev n_law : List Str := ["_law_script", "_law_bag_here", "_law_turn", "_law_size", "_law_due", "_law_told", "_law_again", "_law_p", "_law_q", "_law_met_here", "_law_joined_here", "_law_spot", "_law_r", "_law_within", "_law_due_within", "_law_good", "_law_whys", "_law_refused", "_law_thing", "_law_rows_here"]
abbrev p_law : List Str := ["_law_script"]
theorem sc_law : FnScope n_law p_law (defScope s_law) := ⟨rfl, rfl, rfl, by decide +kernel, rfl, by decide +kernel, by decide +kernel⟩
structure Adr where
  no : Nat
  InvalidName : Addr
  InvalidNumber : Addr
  InvalidText : Addr
  InvalidCircle : Addr
  InvalidTie : Addr
  InvalidParting : Addr
  InvalidCase : Addr
  TooMany : Addr
  cdA : Addr
  tbA : Addr
structure Txt (K : PySem.W.Frag) (mg : Str → Option Value) (A : Adr) : Prop where
  n_isinstance : mg "isinstance" = none
  n_bool : mg "bool" = none
  n_int : mg "int" = none
  n_tuple : mg "tuple" = none
  n_len : mg "len" = none
  n_all : mg "all" = none
  n_range : mg "range" = none
  n_enumerate : mg "enumerate" = none
  n_sorted : mg "sorted" = none
  n_set : mg "set" = none
  n_list : mg "list" = none
  n_max : mg "max" = none
  n_min : mg "min" = none
  n_zip : mg "zip" = none
  n_abs : mg "abs" = none
  n_dict : mg "dict" = none
  n_str : mg "str" = none
  n_ValueError : mg "ValueError" = none
  n_LookupError : mg "LookupError" = none
  m_MOST_LISTED : ∃ t, mg "MOST_LISTED" = some (.int 6 t)
  e_InvalidName : ErrAt K mg "InvalidName" A.InvalidName "InvalidName.__init__" s_InvalidName___init p_InvalidName___init
  a_InvalidName_value : PySem.W.findIn K (.ref A.InvalidName) "value" = some none
  e_InvalidNumber : ErrAt K mg "InvalidNumber" A.InvalidNumber "InvalidNumber.__init__" s_InvalidNumber___init p_InvalidNumber___init
  a_InvalidNumber_value : PySem.W.findIn K (.ref A.InvalidNumber) "value" = some none
  e_InvalidText : ErrAt K mg "InvalidText" A.InvalidText "InvalidText.__init__" s_InvalidText___init p_InvalidText___init
  a_InvalidText_at : PySem.W.findIn K (.ref A.InvalidText) "at" = some none
  e_InvalidCircle : ErrAt K mg "InvalidCircle" A.InvalidCircle "InvalidCircle.__init__" s_InvalidCircle___init p_InvalidCircle___init
  a_InvalidCircle_at : PySem.W.findIn K (.ref A.InvalidCircle) "at" = some none
  e_InvalidTie : ErrAt K mg "InvalidTie" A.InvalidTie "InvalidTie.__init__" s_InvalidTie___init p_InvalidTie___init
  a_InvalidTie_at : PySem.W.findIn K (.ref A.InvalidTie) "at" = some none
  e_InvalidParting : ErrAt K mg "InvalidParting" A.InvalidParting "InvalidParting.__init__" s_InvalidParting___init p_InvalidParting___init
  a_InvalidParting_value : PySem.W.findIn K (.ref A.InvalidParting) "value" = some none
  e_InvalidCase : ErrAt K mg "InvalidCase" A.InvalidCase "InvalidCase.__init__" s_InvalidCase___init p_InvalidCase___init
  a_InvalidCase_value : PySem.W.findIn K (.ref A.InvalidCase) "value" = some none
  e_TooMany : ErrAt K mg "TooMany" A.TooMany "TooMany.__init__" s_TooMany___init p_TooMany___init
  a_TooMany_what : PySem.W.findIn K (.ref A.TooMany) "what" = some none
  a_TooMany_most : PySem.W.findIn K (.ref A.TooMany) "most" = some none
  x_InvalidName_InvalidName : PySem.W.exmOne K (.ref A.InvalidName) (.ref A.InvalidName) = some true
  x_InvalidCircle_InvalidName : PySem.W.exmOne K (.ref A.InvalidCircle) (.ref A.InvalidName) = some false
  x_InvalidCircle_InvalidNumber : PySem.W.exmOne K (.ref A.InvalidCircle) (.ref A.InvalidNumber) = some false
  x_InvalidCircle_InvalidText : PySem.W.exmOne K (.ref A.InvalidCircle) (.ref A.InvalidText) = some false
  x_InvalidCircle_InvalidCircle : PySem.W.exmOne K (.ref A.InvalidCircle) (.ref A.InvalidCircle) = some true
  x_InvalidNumber_InvalidName : PySem.W.exmOne K (.ref A.InvalidNumber) (.ref A.InvalidName) = some false
  x_InvalidNumber_InvalidNumber : PySem.W.exmOne K (.ref A.InvalidNumber) (.ref A.InvalidNumber) = some true
  x_InvalidTie_InvalidName : PySem.W.exmOne K (.ref A.InvalidTie) (.ref A.InvalidName) = some false
  x_InvalidTie_InvalidNumber : PySem.W.exmOne K (.ref A.InvalidTie) (.ref A.InvalidNumber) = some false
  x_InvalidTie_InvalidText : PySem.W.exmOne K (.ref A.InvalidTie) (.ref A.InvalidText) = some false
  x_InvalidTie_InvalidCircle : PySem.W.exmOne K (.ref A.InvalidTie) (.ref A.InvalidCircle) = some false
  x_InvalidTie_InvalidTie : PySem.W.exmOne K (.ref A.InvalidTie) (.ref A.InvalidTie) = some true
  x_InvalidParting_InvalidName : PySem.W.exmOne K (.ref A.InvalidParting) (.ref A.InvalidName) = some false
  x_InvalidParting_InvalidNumber : PySem.W.exmOne K (.ref A.InvalidParting) (.ref A.InvalidNumber) = some false
  x_InvalidParting_InvalidText : PySem.W.exmOne K (.ref A.InvalidParting) (.ref A.InvalidText) = some false
  x_InvalidParting_InvalidCircle : PySem.W.exmOne K (.ref A.InvalidParting) (.ref A.InvalidCircle) = some false
  x_InvalidParting_InvalidTie : PySem.W.exmOne K (.ref A.InvalidParting) (.ref A.InvalidTie) = some false
  x_InvalidParting_InvalidParting : PySem.W.exmOne K (.ref A.InvalidParting) (.ref A.InvalidParting) = some true
  x_TooMany_InvalidName : PySem.W.exmOne K (.ref A.TooMany) (.ref A.InvalidName) = some false
  x_TooMany_InvalidNumber : PySem.W.exmOne K (.ref A.TooMany) (.ref A.InvalidNumber) = some false
  x_TooMany_InvalidText : PySem.W.exmOne K (.ref A.TooMany) (.ref A.InvalidText) = some false
  x_TooMany_InvalidCircle : PySem.W.exmOne K (.ref A.TooMany) (.ref A.InvalidCircle) = some false
  x_TooMany_InvalidTie : PySem.W.exmOne K (.ref A.TooMany) (.ref A.InvalidTie) = some false
  x_TooMany_InvalidParting : PySem.W.exmOne K (.ref A.TooMany) (.ref A.InvalidParting) = some false
  x_TooMany_InvalidCase : PySem.W.exmOne K (.ref A.TooMany) (.ref A.InvalidCase) = some false
  x_TooMany_TooMany : PySem.W.exmOne K (.ref A.TooMany) (.ref A.TooMany) = some true
  x_InvalidText_InvalidName : PySem.W.exmOne K (.ref A.InvalidText) (.ref A.InvalidName) = some false
  x_InvalidText_InvalidNumber : PySem.W.exmOne K (.ref A.InvalidText) (.ref A.InvalidNumber) = some false
  x_InvalidText_InvalidText : PySem.W.exmOne K (.ref A.InvalidText) (.ref A.InvalidText) = some true
  x_InvalidText_TooMany : PySem.W.exmOne K (.ref A.InvalidText) (.ref A.TooMany) = some false
  x_InvalidCase_InvalidName : PySem.W.exmOne K (.ref A.InvalidCase) (.ref A.InvalidName) = some false
  x_InvalidCase_InvalidNumber : PySem.W.exmOne K (.ref A.InvalidCase) (.ref A.InvalidNumber) = some false
  x_InvalidCase_InvalidText : PySem.W.exmOne K (.ref A.InvalidCase) (.ref A.InvalidText) = some false
  x_InvalidCase_InvalidCircle : PySem.W.exmOne K (.ref A.InvalidCase) (.ref A.InvalidCircle) = some false
  x_InvalidCase_InvalidTie : PySem.W.exmOne K (.ref A.InvalidCase) (.ref A.InvalidTie) = some false
  x_InvalidCase_InvalidParting : PySem.W.exmOne K (.ref A.InvalidCase) (.ref A.InvalidParting) = some false
  x_InvalidCase_InvalidCase : PySem.W.exmOne K (.ref A.InvalidCase) (.ref A.InvalidCase) = some true
  kstop : PySem.W.subIn K (.ref A.InvalidNumber) (.type "StopIteration") = some false
  f_is_number : FnAt K mg "is_number" s_is_number p_is_number
  f_is_parting : FnAt K mg "is_parting" s_is_parting p_is_parting
  f_is_item : FnAt K mg "is_item" s_is_item p_is_item
  f_lots_of : FnAt K mg "lots_of" s_lots_of p_lots_of
  f_meet_of : FnAt K mg "meet_of" s_meet_of p_meet_of
  f_join_of : FnAt K mg "join_of" s_join_of p_join_of
  f_is_within : FnAt K mg "is_within" s_is_within p_is_within
  f_check_partings : FnAt K mg "check_partings" s_check_partings p_check_partings
  f_all_partings : FnAt K mg "all_partings" s_all_partings p_all_partings
  f_linked : FnAt K mg "linked" s_linked p_linked
  f_by_keys : FnAt K mg "by_keys" s_by_keys p_by_keys
  f_met : FnAt K mg "met" s_met p_met
  f_joined : FnAt K mg "joined" s_joined p_joined
  f_within : FnAt K mg "within" s_within p_within
  f_law_bag : FnAt K mg "_law_bag" s_law_bag p_law_bag
  f_law_draw : FnAt K mg "_law_draw" s_law_draw p_law_draw
  f_law_of : FnAt K mg "_law_of" s_law_of p_law_of
  f_law_same : FnAt K mg "_law_same" s_law_same p_law_same
  f_law_try : FnAt K mg "_law_try" s_law_try p_law_try
  f_law_why : FnAt K mg "_law_why" s_law_why p_law_why
  f_law_odd : FnAt K mg "_law_odd" s_law_odd p_law_odd
  f_law_is_case : FnAt K mg "_law_is_case" s_law_is_case p_law_is_case
  f_law_is_rows : FnAt K mg "_law_is_rows" s_law_is_rows p_law_is_rows
  f_law_merged : FnAt K mg "_law_merged" s_law_merged p_law_merged
  f_law_met : FnAt K mg "_law_met" s_law_met p_law_met
  f_law_joined : FnAt K mg "_law_joined" s_law_joined p_law_joined
  f_law_inner : FnAt K mg "_law_inner" s_law_inner p_law_inner
  f_law_rows : FnAt K mg "_law_rows" s_law_rows p_law_rows
  f_law_grown : FnAt K mg "_law_grown" s_law_grown p_law_grown
  f_law_count : FnAt K mg "_law_count" s_law_count p_law_count
  f_law_listed : FnAt K mg "_law_listed" s_law_listed p_law_listed
  f_law : FnAtC K mg "law" s_law p_law A.cdA
def TT (A : Adr) : List (Addr × Str) := [(A.tbA, (envOfC "law" (defScope s_law) 0 0 .none).qual ++ "<lambda>")]
structure Tbs (K : PySem.W.Frag) (h : Heap) (A : Adr) : Prop where
  tA : h.get? A.tbA = some { cls := .none, data := .fields #[] }
  nA : K.lookup A.tbA = none
  cA : PySem.W.CodeHd h A.cdA A.tbA
end Eyes

set_option Elab.async false
set_option linter.all false
set_option maxRecDepth 100000
set_option maxHeartbeats 4000000
namespace Eyes
open PySem PySem.Spec PyProof.Rows L2 Evl
local macro_rules | `(tactic| walk_at "v") => `(tactic| refine ⟨_, rfl, ?_⟩)
local macro_rules | `(tactic| walk_at "rd") => `(tactic| first
  | refine ⟨_, rfl, ?_⟩
  | refine ⟨_, _, rfl, rfl, .inr ⟨by decide, by decide⟩, ?_⟩
  | refine ⟨_, _, rfl, rfl, .inl ⟨by decide, by decide⟩, ?_⟩
  | refine ⟨_, _, rfl, rfl, (show (0 : Int) < _ by decide), ?_⟩
  | refine ⟨_, _, rfl, rfl, (show (0 : Int) < _ ∧ _ < (1073741824 : Int) by decide), ?_⟩
  | refine ⟨_, _, rfl, rfl, ?_⟩
  | refine .inl ⟨_, rfl, ?_⟩)
/-! ### the bag of drawn numbers -/
structure BagS (b c : Addr) (ns : List Int) (i r m n : Int) (G H : Hp) : Prop where
  nb : G b = none
  nc : G c = none
  ex : Ex G H
  at_ : H b = some (.lst [.ref c, .int i, .int r, .int m, .int n])
  cells : H c = some (.lst (ns.map V.int))
  ne : c ≠ b
  i0 : 0 ≤ i
  r0 : 0 ≤ r
  m0 : 0 ≤ m
  m1 : m < 2147483648
theorem BagS.set {b c : Addr} {ns : List Int} {i r m n i' r' m' n' : Int} {G H : Hp} (B : BagS b c ns i r m n G H) (h1 : 0 ≤ i') (h2 : 0 ≤ r') (h3 : 0 ≤ m') (h4 : m' < 2147483648) :
    BagS b c ns i' r' m' n' G (upd H b (.lst [.ref c, .int i', .int r', .int m', .int n'])) :=
  ⟨B.nb, B.nc, B.ex.mut B.nb, upd_same, (upd_ne B.ne).trans B.cells, B.ne, h1, h2, h3, h4⟩
def At (b : Addr) (G H : Hp) : Prop := ∃ (c : Addr) (ns : List Int) (i r m n : Int), BagS b c ns i r m n G H
theorem At.nb {b : Addr} {G H : Hp} (h : At b G H) : G b = none := by
  obtain ⟨c, ns, i, r, m, n, B⟩ := h
  exact B.nb
theorem At.ex {b : Addr} {G H : Hp} (h : At b G H) : Ex G H := by
  obtain ⟨c, ns, i, r, m, n, B⟩ := h
  exact B.ex
theorem At.mono {b : Addr} {G H H' : Hp} (h : At b G H) (e : Ex H H') : At b G H' := by
  obtain ⟨c, ns, i, r, m, n, B⟩ := h
  exact ⟨c, ns, i, r, m, n, B.nb, B.nc, B.ex.trans e, e _ _ B.at_, e _ _ B.cells, B.ne, B.i0, B.r0, B.m0, B.m1⟩
theorem At.free {b : Addr} {G H : Hp} (h : At b G H) {p : Addr} (hp : H p = none) : p ≠ b := by
  obtain ⟨c, ns, i, r, m, n, B⟩ := h
  intro e
  rw [e, B.at_] at hp
  cases hp
theorem At.new {b : Addr} {G H : Hp} (h : At b G H) {p : Addr} {o : HO} (hp : H p = none) : At b (upd G p o) (upd H p o) := by
  have hf := h.free hp
  have hc : ∀ c ns i r m n, BagS b c ns i r m n G H → p ≠ c := fun c ns i r m n B e => by
    rw [e, B.cells] at hp
    cases hp
  obtain ⟨c, ns, i, r, m, n, B0⟩ := h
  have B : BagS b c ns i r m n G (upd H p o) := ⟨B0.nb, B0.nc, B0.ex.trans (Ex.new hp), Ex.new hp _ _ B0.at_, Ex.new hp _ _ B0.cells, B0.ne, B0.i0, B0.r0, B0.m0, B0.m1⟩
  refine ⟨c, ns, i, r, m, n, (upd_ne hf.symm).trans B.nb, (upd_ne (hc _ _ _ _ _ _ B0).symm).trans B.nc, fun a u e => ?_, B.at_, B.cells, B.ne, B.i0, B.r0, B.m0, B.m1⟩
  by_cases ha : a = p
  · subst ha
    rw [upd_same] at e ⊢
    exact e
  · rw [upd_ne ha] at e
    exact B.ex a u e
theorem At.weak {b : Addr} {G G1 H : Hp} (h : At b G1 H) (e : Ex G G1) : At b G H := by
  obtain ⟨c, ns, i, r, m, n, B⟩ := h
  exact ⟨c, ns, i, r, m, n, fresh_back e B.nb, fresh_back e B.nc, e.trans B.ex, B.at_, B.cells, B.ne, B.i0, B.r0, B.m0, B.m1⟩
theorem At.nh {b : Addr} {G H : Hp} (h : At b G H) {p : Addr} (hp : H p = none) : G p = none := fresh_back h.ex hp
theorem At.put {b : Addr} {G H : Hp} {p : Addr} {o o' : HO} (h : At b (upd G p o) H) : At b (upd G p o') (upd H p o') := by
  obtain ⟨c, ns, i, r, m, n, B⟩ := h
  have hb : b ≠ p := fun e => by
    have := B.nb
    rw [e, upd_same] at this
    cases this
  have hc : c ≠ p := fun e => by
    have := B.nc
    rw [e, upd_same] at this
    cases this
  refine ⟨c, ns, i, r, m, n, ?_, ?_, fun a u e => ?_, (upd_ne hb).trans B.at_, (upd_ne hc).trans B.cells, B.ne, B.i0, B.r0, B.m0, B.m1⟩
  · have := B.nb
    rw [upd_ne hb] at this ⊢
    exact this
  · have := B.nc
    rw [upd_ne hc] at this ⊢
    exact this
  · by_cases ha : a = p
    · subst ha
      rw [upd_same] at e ⊢
      exact e
    · rw [upd_ne ha] at e ⊢
      exact B.ex a u (by rw [upd_ne ha]; exact e)
theorem cut_to (xs : List V) (k : Nat) : cutV xs none (some (k : Int)) = xs.take k := by
  unfold cutV
  rw [HT.sIx_none, HT.sIx_nat, List.drop_zero, Nat.sub_zero]
  rcases Nat.le_total k xs.length with h | h
  · rw [Nat.min_eq_left h]
  · rw [Nat.min_eq_right h, List.take_of_length_le h, List.take_of_length_le (Nat.le_refl _)]
theorem at_of' {α : Type} {xs : List α} {z : Int} {v : α} (e : 0 ≤ z) (h : xs[z.toNat]? = some v) : atI xs z = some v := by
  have e2 : z = (z.toNat : Int) := by omega
  rw [e2]
  exact atI_nat h
def spBag (K : PySem.W.Frag) : Sp := fun vs H Q _ => ∃ (a : Addr) (ns : List Int), vs = [.ref a] ∧ SqL K H a (ns.map V.int) ∧ ∀ b H', H b = none → At b H H' → Q (.ref b) H'
def spDraw : Sp := fun vs H Q _ => ∃ (b : Addr) (z : Int) (G : Hp), vs = [.ref b, .int z] ∧ At b G H ∧ 0 < z ∧ z < 1073741824 ∧ ∀ d H', 0 ≤ d → d < z → At b G H' → Q (.int d) H'
section
variable {P : Program} {w : World} {K : PySem.W.Frag} {mg : Str → Option Value} {base : Heap}
theorem ok_law_bag {AA : Adr} (T : Txt K mg AA) : Pr P w K mg base "_law_bag" s_law_bag p_law_bag 1 (spBag K) := by
  refine pr_mk T.f_law_bag sc_law_bag (fun vs H Q E h => ?_) (fun f cdv A outer s H vs Q E hr h => ?_)
  · obtain ⟨a, ns, rfl, _⟩ := h
    rfl
  · obtain ⟨a, ns, rfl, hS, q⟩ := h
    refine ⟨_, (pss_cons (ps_set (i := 1) sc_law_bag.nd rfl (.inl rfl) pe_int)
      (pss_cons (ps_for PassesOwn.never rfl (pi_list (pe_slice sl_list (pv 0) po_none (po_some pe_int))) (pg_name (i := 2) sc_law_bag.nd rfl (.inl rfl))
      (pss_one (ps_set (i := 1) sc_law_bag.nd rfl (.inl rfl) (pe_op op_mod (pe_callTy call_int1 (by rfl) T.n_int PyProof.Rows.boot_int (pa_cons (pe_op op_add (pe_op op_add (pe_op op_mul (pv 1) pe_int) (pe_op op_mul (pe_op op_mod (pe_callTy call_int1 (by rfl) T.n_int PyProof.Rows.boot_int (pa_cons (pv 2) pa_nil)) pe_int) pe_int)) pe_int) pa_nil)) pe_int))))
      (pss_one (ps_ret (pe_lst (pa_cons (pe_callTy call_list_of (by rfl) T.n_list PyProof.Rows.boot_list (pa_cons (pe_slice sl_list (pv 0) po_none (po_some pe_int)) pa_nil)) (pa_cons pe_int (pa_cons pe_int (pa_cons (pv 1) (pa_cons pe_int pa_nil)))))))))), ?_⟩
    -- mixed = 43001
    -- for piece in script[:63]
    refine ⟨_, rfl, 63, rfl, a, _, rfl, hS, fun p np => ?_⟩
    have hc : cutV (ns.map V.int) none (some 63) = (ns.take 63).map V.int := (cut_to _ 63).trans List.map_take.symm
    rw [hc]
    have e1 : Ex H (upd H p (.lst ((ns.take 63).map V.int))) := Ex.new np
    refine ⟨p, rfl, ⟨_, sq_of upd_same⟩, for_list (xs := (ns.take 63).map V.int) (fun _ σ H' => ∃ (m : Int) (y : Option V), σ = [some (.ref a), some (.int m), y] ∧ 0 ≤ m ∧ m < 2147483587 ∧ Ex (upd H p (.lst ((ns.take 63).map V.int))) H') ⟨43001, none, rfl, by omega, by omega, Ex.refl _⟩ (fun i σ H' _ hp => ?_) (fun i x σ H' hx hp => ?_) (fun σ H' hp => ?_)⟩
    · obtain ⟨m, y, rfl, _, _, e2⟩ := hp
      exact sq_of (e2 _ _ upd_same)
    · obtain ⟨m, y, rfl, h0, h1, e2⟩ := hp
      rw [List.getElem?_map] at hx
      obtain ⟨k, hk, rfl⟩ := Option.map_eq_some_iff.mp hx
      -- the sum
      repeat walk_at "rd"
      exact ⟨_, _, rfl, Int.emod_nonneg _ (by decide), Int.emod_lt_of_pos _ (by decide), e2⟩
    · obtain ⟨m, y, rfl, h0, h1, e2⟩ := hp
      -- return [list(script[:63]), 0, 0, mixed, 0]
      have hS1 : SqL K H' a (ns.map V.int) := ex_l (e1.trans e2) hS
      refine ⟨_, rfl, 63, rfl, a, _, rfl, hS1, fun p2 np2 => ?_⟩
      rw [hc]
      refine ⟨p2, _, rfl, .inl (sq_of upd_same), fun p3 np3 => ?_⟩
      refine ⟨_, rfl, by show 5 ≤ sizeLine; decide, fun b nb => ?_⟩
      have ex : Ex H _ := (((e1.trans e2).trans (Ex.new np2)).trans (Ex.new np3)).trans (Ex.new (o := HO.lst [.ref p3, .int 0, .int 0, .int m, .int 0]) nb)
      refine q b _ (fresh_back (((e1.trans e2).trans (Ex.new np2)).trans (Ex.new np3)) nb) ⟨p3, ns.take 63, 0, 0, m, 0, fresh_back (((e1.trans e2).trans (Ex.new np2)).trans (Ex.new np3)) nb, fresh_back ((e1.trans e2).trans (Ex.new np2)) np3, ex, upd_same, ?_, ?_, by omega, by omega, by omega, by omega⟩
      · have hb : p3 ≠ b := ne_of_none upd_same nb
        rw [upd_ne hb, upd_same]
      · exact ne_of_none upd_same nb
theorem ok_law_draw {AA : Adr} (T : Txt K mg AA) : Pr P w K mg base "_law_draw" s_law_draw p_law_draw 1 spDraw := by
  refine pr_mk T.f_law_draw sc_law_draw (fun vs H Q E h => ?_) (fun f cdv A outer s H vs Q E hr h => ?_)
  · obtain ⟨b, z, G, rfl, _⟩ := h
    rfl
  · obtain ⟨b, z, G, rfl, ⟨c, ns, i, r, m, n, B⟩, hz0, hz1, q⟩ := h
    refine ⟨_, (pss_cons (ps_asg (pe_op op_add (pe_ix (ix_listK (K := K) rfl) (pv 0) pe_int (fun _ _ => rfl)) pe_int) (pg_sub (pv 0) pe_int set_list))
      (Evl.pss_cut (ps_if (PW.pt (pw_and (pt_cmpR op_eq (pe_ix (ix_listK (K := K) rfl) (pv 0) pe_int (fun _ _ => rfl)) pe_int (nomark _)) (pw_and1 (pt_cmpR op_lt (pe_ix (ix_listK (K := K) rfl) (pv 0) pe_int (fun _ _ => rfl)) (pe_callB (call_len_seqK (K := K) rfl) (by rfl) T.n_len PySem.boot_len (pa_cons (pe_ix (ix_listK (K := K) rfl) (pv 0) pe_int (fun _ _ => rfl)) pa_nil)) (nomark _)))))
      (pss_cons (ps_set (i := 2) sc_law_draw.nd rfl (.inl rfl) (pe_callB call_abs (by rfl) T.n_abs PyProof.Rows.boot_abs (pa_cons (pe_callTy call_int1 (by rfl) T.n_int PyProof.Rows.boot_int (pa_cons (pe_ix (ix_listK (K := K) rfl) (pe_ix (ix_listK (K := K) rfl) (pv 0) pe_int (fun _ _ => rfl)) (pe_ix (ix_listK (K := K) rfl) (pv 0) pe_int (fun _ _ => rfl)) (fun _ _ => rfl)) pa_nil)) pa_nil)))
      (pss_cons (ps_asg (pe_op op_add (pe_ix (ix_listK (K := K) rfl) (pv 0) pe_int (fun _ _ => rfl)) pe_int) (pg_sub (pv 0) pe_int set_list))
      (pss_one (ps_if (pt_cmpR op_ge (pv 2) (pe_op op_pow pe_int pe_int) (nomark _))
      (pss_one (ps_asg (pv 2) (pg_sub (pv 0) pe_int set_list)))
      (pss_one (ps_asg (pe_op op_mod (pe_callTy call_int1 (by rfl) T.n_int PyProof.Rows.boot_int (pa_cons (pe_op op_add (pe_op op_add (pe_op op_mul (pe_ix (ix_listK (K := K) rfl) (pv 0) pe_int (fun _ _ => rfl)) pe_int) (pe_op op_mul (pe_op op_mod (pv 2) pe_int) pe_int)) pe_int) pa_nil)) pe_int) (pg_sub (pv 0) pe_int set_list)))))))
      pss_nil)
      (pss_cons (ps_if (pt_cmpR op_gt (pe_ix (ix_listK (K := K) rfl) (pv 0) pe_int (fun _ _ => rfl)) pe_int (nomark _))
      (pss_cons (ps_set (i := 3) sc_law_draw.nd rfl (.inl rfl) (pe_op op_mod (pe_callTy call_int1 (by rfl) T.n_int PyProof.Rows.boot_int (pa_cons (pe_ix (ix_listK (K := K) rfl) (pv 0) pe_int (fun _ _ => rfl)) pa_nil)) (pv 1)))
      (pss_cons (ps_asg (pe_op op_fdiv (pe_ix (ix_listK (K := K) rfl) (pv 0) pe_int (fun _ _ => rfl)) (pv 1)) (pg_sub (pv 0) pe_int set_list))
      (pss_one (ps_ret (pv 3)))))
      pss_nil)
      (pss_cons (ps_set (i := 4) sc_law_draw.nd rfl (.inl rfl) (pe_callTy call_int1 (by rfl) T.n_int PyProof.Rows.boot_int (pa_cons (pe_ix (ix_listK (K := K) rfl) (pv 0) pe_int (fun _ _ => rfl)) pa_nil)))
      (pss_cons (ps_asg (pe_op op_mod (pe_callTy call_int1 (by rfl) T.n_int PyProof.Rows.boot_int (pa_cons (pe_op op_add (pe_op op_add (pe_op op_add (pe_op op_mul (pe_op op_mul (pv 4) (pv 4)) pe_int) (pe_op op_mul (pv 4) pe_int)) (pe_op op_mul (pe_ix (ix_listK (K := K) rfl) (pv 0) pe_int (fun _ _ => rfl)) pe_int)) pe_int) pa_nil)) pe_int) (pg_sub (pv 0) pe_int set_list))
      (pss_one (ps_ret (pe_op op_mod (pe_callTy call_int1 (by rfl) T.n_int PyProof.Rows.boot_int (pa_cons (pe_op op_add (pe_op op_fdiv (pe_ix (ix_listK (K := K) rfl) (pv 0) pe_int (fun _ _ => rfl)) pe_int) (pe_op op_mul (pe_op op_mod (pe_callTy call_int1 (by rfl) T.n_int PyProof.Rows.boot_int (pa_cons (pe_ix (ix_listK (K := K) rfl) (pv 0) pe_int (fun _ _ => rfl)) pa_nil)) pe_int) pe_int)) pa_nil)) (pv 1))))))))), ?_⟩
    -- bag[4] = bag[4] + 1
    refine ⟨_, rfl, b, _, 4, _, rfl, rfl, sq_of B.at_, rfl, n, 1, rfl, rfl, _, rfl, b, _, 4, 4, rfl, rfl, B.at_, rfl, ?_⟩
    have B1 := B.set (n' := n + 1) B.i0 B.r0 B.m0 B.m1
    generalize hH1 : upd H b _ = H1
    rw [show ([V.ref c, .int i, .int r, .int m, .int n].set 4 (.int (n + 1))) = [V.ref c, .int i, .int r, .int m, .int (n + 1)] from rfl] at hH1
    rw [hH1] at B1
    clear hH1 B
    generalize n + 1 = n at B1
    -- the first if: Mid
    refine ⟨fun σ H' => ∃ (y2 y3 y4 : Option V), σ = [some (.ref b), some (.int z), y2, y3, y4] ∧ At b G H', ?_, fun σ H' hM => ?_⟩
    · refine ⟨_, rfl, b, _, 2, _, rfl, rfl, sq_of B1.at_, rfl, rfl, _, rfl, ite2 (fun hr0 => ?_) (fun hr0 => ?_)⟩
      · refine ⟨_, rfl, b, _, 1, _, rfl, rfl, sq_of B1.at_, rfl, _, rfl, b, _, 0, _, rfl, rfl, sq_of B1.at_, rfl, c, _, rfl, .inl (sq_of B1.cells), i, _, rfl, rfl, _, rfl, ite2 (fun hi => ?_) (fun hi => ?_)⟩
        · have hi : i < ((ns.map V.int).length : Int) := of_decide_eq_true hi
          have hi2 : i.toNat < ns.length := by
            rw [List.length_map] at hi
            have := B1.i0
            omega
          have g : (ns.map V.int)[i.toNat]? = some (.int ns[i.toNat]) := by
            rw [List.getElem?_map, List.getElem?_eq_getElem hi2]
            rfl
          have g2 : atI (ns.map V.int) i = some (.int ns[i.toNat]) := at_of (j := i.toNat) (by have := B1.i0; omega) g
          generalize ns[i.toNat] = x at g2
          -- piece = abs(int(bag[0][bag[1]]))
          refine ⟨_, rfl, b, _, 0, _, rfl, rfl, sq_of B1.at_, rfl, _, rfl, b, _, 1, _, rfl, rfl, sq_of B1.at_, rfl, c, _, i, _, rfl, rfl, sq_of B1.cells, g2, .inl ⟨x, rfl, x, rfl, ?_⟩⟩
          generalize hy : (if x < 0 then -x else x) = y
          have hy0 : 0 ≤ y := by
            rw [← hy]
            split <;> omega
          -- bag[1] = bag[1] + 1
          refine ⟨_, rfl, b, _, 1, _, rfl, rfl, sq_of B1.at_, rfl, i, 1, rfl, rfl, _, rfl, b, _, 1, 1, rfl, rfl, B1.at_, rfl, ?_⟩
          have B2 := B1.set (i' := i + 1) (n' := n) (by have := B1.i0; omega) B1.r0 B1.m0 B1.m1
          -- if piece >= 10 ** 18
          refine ⟨_, rfl, 10, 18, rfl, rfl, ⟨by decide, by decide, by decide⟩, _, _, rfl, rfl, _, rfl, ite2 (fun hp => ?_) (fun hp => ?_)⟩
          · refine ⟨_, rfl, _, rfl, b, _, 2, 2, rfl, rfl, B2.at_, rfl, _, _, _, rfl, _, _, _, _, _, _, B2.set (r' := y) (n' := n) B2.i0 hy0 B2.m0 B2.m1⟩
          · refine ⟨_, rfl, b, _, 3, _, rfl, rfl, sq_of B2.at_, rfl, m, 40014, rfl, rfl, .inr ⟨by decide, by decide⟩, _, rfl, ?_⟩
            repeat walk_at "rd"
            refine ⟨b, _, 3, 3, rfl, rfl, B2.at_, rfl, _, _, _, rfl, _, _, _, _, _, _, B2.set (n' := n) (m' := (m * 40014 + y % 999979 * 613 + 29) % 2147483579) B2.i0 B2.r0 (Int.emod_nonneg _ (by decide)) (Int.lt_trans (Int.emod_lt_of_pos _ (by decide)) (by decide))⟩
        · exact ⟨_, _, _, rfl, c, ns, i, r, m, n, B1⟩
      · exact ⟨_, _, _, rfl, c, ns, i, r, m, n, B1⟩
    · obtain ⟨y2, y3, y4, rfl, c, ns, i, r, m, n, B⟩ := hM
      -- if bag[2] > 0
      refine ⟨_, rfl, b, _, 2, _, rfl, rfl, sq_of B.at_, rfl, r, 0, rfl, rfl, _, rfl, ite2 (fun hr1 => ?_) (fun hr1 => ?_)⟩
      · have hr1 : 0 < r := of_decide_eq_true hr1
        refine ⟨_, rfl, b, _, 2, _, rfl, rfl, sq_of B.at_, rfl, .inl ⟨r, rfl, _, rfl, r, z, rfl, rfl, hz0, ?_⟩⟩
        refine ⟨_, rfl, b, _, 2, _, rfl, rfl, sq_of B.at_, rfl, _, rfl, r, z, rfl, rfl, ⟨hz0, hz1⟩, _, rfl, b, _, 2, 2, rfl, rfl, B.at_, rfl, _, rfl, ?_⟩
        exact q _ _ (Int.emod_nonneg _ (by omega)) (Int.emod_lt_of_pos _ hz0) ⟨_, _, _, _, _, _, B.set (r' := r / z) (n' := n) B.i0 (Int.ediv_nonneg B.r0 (by omega)) B.m0 B.m1⟩
      · refine ⟨_, rfl, b, _, 3, _, rfl, rfl, sq_of B.at_, rfl, .inl ⟨m, rfl, ?_⟩⟩
        have hm : -(2 ^ 64) < m ∧ m < 2 ^ 64 := ⟨Int.lt_of_lt_of_le (by decide) B.m0, Int.lt_trans B.m1 (by decide)⟩
        refine ⟨_, rfl, _, rfl, m, m, rfl, rfl, .inl hm, _, _, rfl, rfl, .inr ⟨by decide, by decide⟩, _, rfl, _, _, rfl, rfl, .inr ⟨by decide, by decide⟩, _, _, rfl, rfl, _, rfl, b, _, 4, _, rfl, rfl, sq_of B.at_, rfl, _, _, rfl, rfl, .inr ⟨by decide, by decide⟩, _, _, rfl, rfl, _, _, rfl, rfl, .inl ⟨_, rfl, _, _, rfl, rfl, (show (0 : Int) < _ by decide), _, rfl, b, _, 3, 3, rfl, rfl, B.at_, rfl, ?_⟩⟩
        have B2 := B.set (n' := n) (m' := (m * m * 31 + m * 52774 + n * 130363 + 70001) % 2147483629) B.i0 B.r0 (Int.emod_nonneg _ (by decide)) (Int.lt_trans (Int.emod_lt_of_pos _ (by decide)) (by decide))
        refine ⟨_, rfl, b, _, 3, _, rfl, rfl, sq_of B2.at_, rfl, _, 71, rfl, rfl, ⟨by decide, by decide⟩, _, rfl, b, _, 3, _, rfl, rfl, sq_of B2.at_, rfl, .inl ⟨_, rfl, _, 9001, rfl, rfl, (show (0 : Int) < _ by decide), _, _, rfl, rfl, .inr ⟨by decide, by decide⟩, _, _, rfl, rfl, .inl ⟨_, rfl, _, rfl, _, _, rfl, rfl, hz0, ?_⟩⟩⟩
        exact q _ _ (Int.emod_nonneg _ (by omega)) (Int.emod_lt_of_pos _ hz0) ⟨_, _, _, _, _, _, B2⟩
def SeqV (K : PySem.W.Frag) (H : Hp) (x : V) (items : List V) : Prop :=
  (∃ p, x = .ref p ∧ SqL K H p items) ∨ (∃ p, x = .ref p ∧ SqT K H p items) ∨ ∃ z : Str, x = .str z ∧ z.length ≤ sizeLine ∧ items = z.cps.toList.map fun c => V.str ⟨#[c]⟩
theorem SeqV.mono {H H' : Hp} {x : V} {items : List V} (h : SeqV K H x items) (e : Ex H H') : SeqV K H' x items := by
  rcases h with ⟨p, hx, h⟩ | ⟨p, hx, h⟩ | h
  · exact .inl ⟨p, hx, ex_l e h⟩
  · exact .inr (.inl ⟨p, hx, ex_t e h⟩)
  · exact .inr (.inr h)
theorem SeqV.len {H : Hp} {x : V} {items : List V} (h : SeqV K H x items) : LenV K x H items.length := by
  rcases h with ⟨p, rfl, h⟩ | ⟨p, rfl, h⟩ | ⟨z, rfl, hz, e⟩
  · exact .inl ⟨_, h, rfl⟩
  · exact .inr ⟨_, h, rfl⟩
  · refine ⟨hz, ?_⟩
    rw [e, List.length_map, Array.length_toList]
    rfl
theorem SeqV.item {H : Hp} {x : V} {items : List V} {d : Int} {v : V} {Q : VK} (h : SeqV K H x items) (hd : 0 ≤ d) (hv : items[d.toNat]? = some v) (q : Q v H) : rIx K x (.int d) H Q := by
  rcases h with ⟨p, rfl, h⟩ | ⟨p, rfl, h⟩ | ⟨z, rfl, hz, e⟩
  · exact .inl ⟨p, _, d, v, rfl, rfl, h, at_of (j := d.toNat) (by omega) hv, q⟩
  · exact .inr (.inl ⟨p, _, d, v, rfl, rfl, h, at_of (j := d.toNat) (by omega) hv, q⟩)
  · subst e
    rw [List.getElem?_map] at hv
    obtain ⟨c, hc, rfl⟩ := Option.map_eq_some_iff.mp hv
    exact .inr (.inr ⟨z, d, c, rfl, rfl, hz, at_of' (by omega) hc, q⟩)
def spOf (K : PySem.W.Frag) : Sp := fun vs H Q _ => ∃ (b : Addr) (x : V) (G : Hp) (items : List V), vs = [.ref b, x] ∧ At b G H ∧ SeqV K G x items ∧ 0 < items.length ∧ items.length < 1073741824 ∧ ∀ v H', v ∈ items → At b G H' → Q v H'
theorem ok_law_of {AA : Adr} (T : Txt K mg AA) : Pr P w K mg base "_law_of" s_law_of p_law_of 2 (spOf K) := by
  refine pr_mk T.f_law_of sc_law_of (fun vs H Q E h => ?_) (fun f cdv A outer s H vs Q E hr h => ?_)
  · obtain ⟨b, x, G, items, rfl, _⟩ := h
    rfl
  · obtain ⟨b, x, G, items, rfl, hA, hx, h0, h1, q⟩ := h
    refine ⟨_, (pss_one (ps_ret (pe_ix (ix_seqK (K := K) rfl) (pv 1) (pcall (ok_law_draw T) hr (pa_cons (pv 0) (pa_cons (pe_callB call_len (by rfl) T.n_len PySem.boot_len (pa_cons (pv 1) pa_nil)) pa_nil))) (fun _ _ => rfl)))), ?_⟩
    refine ⟨_, rfl, _, rfl, _, rfl, x, _, rfl, (hx.mono hA.ex).len, b, _, G, rfl, hA, by omega, by omega, fun d H' d0 d1 hA' => ?_⟩
    have hd : d.toNat < items.length := by omega
    exact (hx.mono hA'.ex).item d0 (List.getElem?_eq_getElem hd) (q _ _ (List.getElem_mem hd) hA')
end
end Eyes

set_option Elab.async false
set_option linter.all false
set_option maxRecDepth 100000
set_option maxHeartbeats 4000000
namespace Eyes
open PySem PySem.Spec PyProof.Rows L2 Evl
/-! ### data in the heap -/
mutual
inductive Rep (H : Hp) : V → PyData → Prop
  | non : Rep H .non .none
  | bl (b : Bool) : Rep H (.bl b) (.bool b)
  | int (i : Int) : Rep H (.int i) (.int i)
  | str (x : Str) : Rep H (.str x) (.str x)
  | lst {a : Addr} {xs : List V} {ds : List PyData} : H a = some (.lst xs) → Reps H xs ds → Rep H (.ref a) (.list ds)
  | tup {a : Addr} {xs : List V} {ds : List PyData} : H a = some (.tup xs) → Reps H xs ds → Rep H (.ref a) (.tuple ds)
inductive Reps (H : Hp) : List V → List PyData → Prop
  | nil : Reps H [] []
  | cons {v : V} {vs : List V} {d : PyData} {ds : List PyData} : Rep H v d → Reps H vs ds → Reps H (v :: vs) (d :: ds)
end
mutual
theorem Rep.mono {H H' : Hp} (e : Ex H H') : ∀ {v : V} {d : PyData}, Rep H v d → Rep H' v d
  | _, _, .non => .non
  | _, _, .bl b => .bl b
  | _, _, .int i => .int i
  | _, _, .str x => .str x
  | _, _, .lst h r => .lst (e _ _ h) (Reps.mono e r)
  | _, _, .tup h r => .tup (e _ _ h) (Reps.mono e r)
theorem Reps.mono {H H' : Hp} (e : Ex H H') : ∀ {v : List V} {d : List PyData}, Reps H v d → Reps H' v d
  | _, _, .nil => .nil
  | _, _, .cons h r => .cons (Rep.mono e h) (Reps.mono e r)
end
theorem Reps.length {H : Hp} : ∀ {xs : List V} {ds : List PyData}, Reps H xs ds → xs.length = ds.length
  | _, _, .nil => rfl
  | _, _, .cons _ r => congrArg Nat.succ (Reps.length r)
theorem Reps.get {H : Hp} : ∀ {xs : List V} {ds : List PyData} {i : Nat} {x : V}, Reps H xs ds → xs[i]? = some x → ∃ d, ds[i]? = some d ∧ Rep H x d
  | _, _, _, _, .nil, e => by simp at e
  | _, _, 0, _, .cons h _, e => by
    simp at e
    subst e
    exact ⟨_, rfl, h⟩
  | _, _, i + 1, x, .cons _ r, e => by
    obtain ⟨d, h1, h2⟩ := Reps.get (i := i) (x := x) r (by simpa using e)
    exact ⟨d, by simpa using h1, h2⟩
theorem depth_get : ∀ {ds : List PyData} {i : Nat} {d : PyData}, ds[i]? = some d → d.depth ≤ PyData.depthAll ds
  | [], _, _, e => by simp at e
  | x :: xs, 0, _, e => by
    simp at e
    subst e
    exact Nat.le_max_left _ _
  | x :: xs, i + 1, d, e => Nat.le_trans (depth_get (ds := xs) (i := i) (by simpa using e)) (Nat.le_max_right _ _)
mutual
def wid : PyData → Nat
  | .list xs => max xs.length (widAll xs)
  | .tuple xs => max xs.length (widAll xs)
  | .dict _ => 0
  | .none => 0
  | .bool _ => 0
  | .int _ => 0
  | .str _ => 0
def widAll : List PyData → Nat
  | [] => 0
  | x :: xs => max (wid x) (widAll xs)
end
theorem wid_get : ∀ {ds : List PyData} {i : Nat} {d : PyData}, ds[i]? = some d → wid d ≤ widAll ds
  | [], _, _, e => by simp at e
  | x :: xs, 0, _, e => by
    simp at e
    subst e
    exact Nat.le_max_left _ _
  | x :: xs, i + 1, d, e => Nat.le_trans (wid_get (ds := xs) (i := i) (by simpa using e)) (Nat.le_max_right _ _)
def tyD : PyData → String
  | .none => "NoneType" | .bool _ => "bool" | .int _ => "int" | .str _ => "str" | .list _ => "list" | .tuple _ => "tuple" | .dict _ => "dict"
theorem Rep.ty {K : PySem.W.Frag} {H : Hp} {v : V} {d : PyData} (h : Rep H v d) : TyX K H v (.type (tyD d)) := by
  cases h with
  | non => exact .base .non
  | bl b => exact .base (.bl b)
  | int b => exact .base (.int b)
  | str b => exact .base (.str b)
  | lst h _ => exact .base (.lst h)
  | tup h _ => exact .base (.tup h)
theorem kit_t (K : PySem.W.Frag) {a b : String} (h : (kitB a b).isSome = true) : ∃ r, PySem.W.kitOne K (.type a) (.type b) = some r := by
  obtain ⟨r, e⟩ := Option.isSome_iff_exists.mp h
  exact ⟨r, kit_ty e⟩
theorem kit_list (K : PySem.W.Frag) : ∀ d : PyData, ∃ b, PySem.W.kitOne K (.type (tyD d)) (.type "list") = some b
  | .none => kit_t K (a := "NoneType") (by decide +kernel) | .bool _ => kit_t K (a := "bool") (by decide +kernel) | .int _ => kit_t K (a := "int") (by decide +kernel) | .str _ => kit_t K (a := "str") (by decide +kernel)
  | .list _ => kit_t K (a := "list") (by decide +kernel) | .tuple _ => kit_t K (a := "tuple") (by decide +kernel) | .dict _ => kit_t K (a := "dict") (by decide +kernel)
theorem kit_tuple (K : PySem.W.Frag) : ∀ d : PyData, ∃ b, PySem.W.kitOne K (.type (tyD d)) (.type "tuple") = some b
  | .none => kit_t K (a := "NoneType") (by decide +kernel) | .bool _ => kit_t K (a := "bool") (by decide +kernel) | .int _ => kit_t K (a := "int") (by decide +kernel) | .str _ => kit_t K (a := "str") (by decide +kernel)
  | .list _ => kit_t K (a := "list") (by decide +kernel) | .tuple _ => kit_t K (a := "tuple") (by decide +kernel) | .dict _ => kit_t K (a := "dict") (by decide +kernel)
theorem kit_bool (K : PySem.W.Frag) : ∀ d : PyData, ∃ b, PySem.W.kitOne K (.type (tyD d)) (.type "bool") = some b
  | .none => kit_t K (a := "NoneType") (by decide +kernel) | .bool _ => kit_t K (a := "bool") (by decide +kernel) | .int _ => kit_t K (a := "int") (by decide +kernel) | .str _ => kit_t K (a := "str") (by decide +kernel)
  | .list _ => kit_t K (a := "list") (by decide +kernel) | .tuple _ => kit_t K (a := "tuple") (by decide +kernel) | .dict _ => kit_t K (a := "dict") (by decide +kernel)
theorem kit_int (K : PySem.W.Frag) : ∀ d : PyData, ∃ b, PySem.W.kitOne K (.type (tyD d)) (.type "int") = some b
  | .none => kit_t K (a := "NoneType") (by decide +kernel) | .bool _ => kit_t K (a := "bool") (by decide +kernel) | .int _ => kit_t K (a := "int") (by decide +kernel) | .str _ => kit_t K (a := "str") (by decide +kernel)
  | .list _ => kit_t K (a := "list") (by decide +kernel) | .tuple _ => kit_t K (a := "tuple") (by decide +kernel) | .dict _ => kit_t K (a := "dict") (by decide +kernel)
theorem kit_str (K : PySem.W.Frag) : ∀ d : PyData, ∃ b, PySem.W.kitOne K (.type (tyD d)) (.type "str") = some b
  | .none => kit_t K (a := "NoneType") (by decide +kernel) | .bool _ => kit_t K (a := "bool") (by decide +kernel) | .int _ => kit_t K (a := "int") (by decide +kernel) | .str _ => kit_t K (a := "str") (by decide +kernel)
  | .list _ => kit_t K (a := "list") (by decide +kernel) | .tuple _ => kit_t K (a := "tuple") (by decide +kernel) | .dict _ => kit_t K (a := "dict") (by decide +kernel)
theorem kit_scal (K : PySem.W.Frag) {a : String} (h1 : kitB a "list" = some false) (h2 : kitB a "tuple" = some false) : PySem.W.kitAny K (.type a) [.type "list", .type "tuple"] = some false :=
  kitAny_cons (b := false) (kit_ty h1) (fun _ => kitAny_cons (b := false) (kit_ty h2) (fun _ => kitAny_nil) (fun z => nomatch z)) (fun z => nomatch z)
def seqD : PyData → Bool
  | .list _ => true | .tuple _ => true | _ => false
theorem kit_seq (K : PySem.W.Frag) : ∀ d : PyData, PySem.W.kitAny K (.type (tyD d)) [.type "list", .type "tuple"] = some (seqD d)
  | .none => kit_scal K (a := "NoneType") (by decide +kernel) (by decide +kernel) | .bool _ => kit_scal K (a := "bool") (by decide +kernel) (by decide +kernel)
  | .int _ => kit_scal K (a := "int") (by decide +kernel) (by decide +kernel) | .str _ => kit_scal K (a := "str") (by decide +kernel) (by decide +kernel) | .dict _ => kit_scal K (a := "dict") (by decide +kernel) (by decide +kernel)
  | .list _ => kitAny_cons (b := true) (kit_ty (a := "list") (by decide +kernel)) (fun z => nomatch z) (fun _ => rfl)
  | .tuple _ => kitAny_cons (b := false) (kit_ty (a := "tuple") (by decide +kernel)) (fun _ => kitAny_cons (b := true) (kit_ty (a := "tuple") (by decide +kernel)) (fun z => nomatch z) (fun _ => rfl)) (fun z => nomatch z)
theorem walk_zipT {K : PySem.W.Frag} {a b : Addr} {xs ys : List V} {n : Nat} (hn : n = min xs.length ys.length) : Walk (RZ.ItzT K a b) n (fun H => SqT K H a xs ∧ SqT K H b ys) (YPair (fun i => xs[i]?) (fun i => ys[i]?)) := by
  subst hn
  refine ⟨fun i _ hi q => ?_, fun _ q => ⟨xs, ys, q.1, q.2, by omega⟩, fun i H v H' _ q y => ?_⟩
  · have h1 : i < xs.length := by omega
    have h2 : i < ys.length := by omega
    exact ⟨xs, ys, xs[i], ys[i], q.1, q.2, by simp [h1], by simp [h2]⟩
  · obtain ⟨T, x, z, h1, h2, h3, h4, h5⟩ := y
    exact ⟨T, x, z, h1, h2, h3, h4 xs q.1, h5 ys q.2⟩
theorem iteDT {c A B : Prop} [Decidable c] (hc : c) (h : A) : if decide c = true then A else B := by
  rw [decide_eq_true hc, if_pos rfl]
  exact h
def spSame (n : Nat) : Sp := fun vs H Q _ => ∃ (x y : V) (d : PyData), vs = [x, y] ∧ Rep H x d ∧ Rep H y d ∧ d.depth < n ∧ wid d ≤ 90000 ∧ ∀ H', Ex H H' → Q (.bl true) H'
section
variable {P : Program} {w : World} {K : PySem.W.Frag} {mg : Str → Option Value} {base : Heap}
theorem ok_law_same {AA : Adr} (T : Txt K mg AA) : ∀ n : Nat, Pr P w K mg base "_law_same" s_law_same p_law_same n (spSame n)
  | 0 => by
    obtain ⟨f, fd, F, hb, hm⟩ := T.f_law_same
    exact ⟨f, fd, hm, F, hb, fun vs H Q E h => by
      obtain ⟨x, y, d, _, _, _, h, _⟩ := h
      omega, fun A outer s H args us vs Q E _ _ _ _ h => by
      obtain ⟨x, y, d, _, _, _, h, _⟩ := h
      omega⟩
  | n + 1 => by
    have G := ok_law_same T n
    refine pr_mk T.f_law_same sc_law_same (fun vs H Q E h => ?_) (fun f cdv A outer s H vs Q E hr h => ?_)
    · obtain ⟨x, y, d, rfl, _⟩ := h
      rfl
    · obtain ⟨x, y, d, rfl, hx, hy, hd, hwd, q⟩ := h
      refine ⟨_, (pss_cons (ps_if (PW.pt (pw_or (pt_cmpR op_isN (pv 1) pe_non (nomark _)) (pw_or1 (pt_cmpR op_isN (pv 0) pe_non (nomark _)))))
      (pss_one (ps_ret (pe_and (pe_cmpR op_isN (pv 1) pe_non (nomark _)) (pe_one (pe_cmpR op_isN (pv 0) pe_non (nomark _))))))
      pss_nil)
      (pss_cons (ps_if (pt_val (pe_callB call_isiT (by rfl) T.n_isinstance PyProof.Rows.boot_isinstance (pa_cons (pv 1) (pa_cons (pe_tup (pa_cons (pe_bltn (v := .ty "list") (by rfl) T.n_list (by decide +kernel) rfl) (pa_cons (pe_bltn (v := .ty "tuple") (by rfl) T.n_tuple (by decide +kernel) rfl) pa_nil))) pa_nil))))
      (pss_cons (ps_if (PW.pt (pw_or (pt_cmpR op_ne (pe_callB (call_isiK (K := K) rfl) (by rfl) T.n_isinstance PyProof.Rows.boot_isinstance (pa_cons (pv 0) (pa_cons (pe_bltn (v := .ty "list") (by rfl) T.n_list (by decide +kernel) rfl) pa_nil))) (pe_callB (call_isiK (K := K) rfl) (by rfl) T.n_isinstance PyProof.Rows.boot_isinstance (pa_cons (pv 1) (pa_cons (pe_bltn (v := .ty "list") (by rfl) T.n_list (by decide +kernel) rfl) pa_nil))) (nomark _)) (pw_or1 (pt_cmpR op_ne (pe_callB (call_isiK (K := K) rfl) (by rfl) T.n_isinstance PyProof.Rows.boot_isinstance (pa_cons (pv 0) (pa_cons (pe_bltn (v := .ty "tuple") (by rfl) T.n_tuple (by decide +kernel) rfl) pa_nil))) (pe_callB (call_isiK (K := K) rfl) (by rfl) T.n_isinstance PyProof.Rows.boot_isinstance (pa_cons (pv 1) (pa_cons (pe_bltn (v := .ty "tuple") (by rfl) T.n_tuple (by decide +kernel) rfl) pa_nil))) (nomark _)))))
      (pss_one (ps_ret pe_bl))
      pss_nil)
      (pss_one (ps_ret (pe_and (pe_cmpR op_eq (pe_callB call_len (by rfl) T.n_len PySem.boot_len (pa_cons (pv 0) pa_nil)) (pe_callB call_len (by rfl) T.n_len PySem.boot_len (pa_cons (pv 1) pa_nil)) (nomark _)) (pe_one (pe_callB (cr_all rfl) (by rfl) T.n_all PyProof.Rows.boot_all (pa_cons (pe_lc (own := [("_law_x", 3), ("_law_y", 4)]) (g := gTup K 2 (gCons (gName 3) (gCons (gName 4) gNil))) (tt := tYes) rfl sc_law_same.nd (RZ.pi_zipA (by rfl) T.n_zip (pa_cons (pv 0) (pa_cons (pv 1) pa_nil))) (blkOk_by (own := [("_law_x", 3), ("_law_y", 4)]) (N := n_law_same) (sc := defScope s_law_same) (by decide +kernel)) (fun _ _ _ _ _ => (pg_tup (by rfl) (pgs_cons (pg_name (i := 3) sc_law_same.nd rfl (.inl rfl)) (pgs_cons (pg_name (i := 4) sc_law_same.nd rfl (.inl rfl)) pgs_nil)))) (fun _ _ _ _ _ => pts_nil) (fun _ _ _ _ _ => (pcall G hr (pa_cons (pv 3) (pa_cons (pv 4) pa_nil))))) pa_nil)))))))
      pss_nil)
      (pss_cons (ps_if (pt_val (pe_callB (call_isiK (K := K) rfl) (by rfl) T.n_isinstance PyProof.Rows.boot_isinstance (pa_cons (pv 1) (pa_cons (pe_bltn (v := .ty "dict") (by rfl) T.n_dict (by decide +kernel) rfl) pa_nil))))
      pss_never
      pss_nil)
      (pss_cons (ps_if (PW.pt (pw_or (pt_cmpR op_ne (pe_callB (call_isiK (K := K) rfl) (by rfl) T.n_isinstance PyProof.Rows.boot_isinstance (pa_cons (pv 1) (pa_cons (pe_bltn (v := .ty "bool") (by rfl) T.n_bool (by decide +kernel) rfl) pa_nil))) (pe_callB (call_isiK (K := K) rfl) (by rfl) T.n_isinstance PyProof.Rows.boot_isinstance (pa_cons (pv 0) (pa_cons (pe_bltn (v := .ty "bool") (by rfl) T.n_bool (by decide +kernel) rfl) pa_nil))) (nomark _)) (pw_or1 (pt_cmpR op_ne (pe_callB (call_isiK (K := K) rfl) (by rfl) T.n_isinstance PyProof.Rows.boot_isinstance (pa_cons (pv 1) (pa_cons (pe_bltn (v := .ty "int") (by rfl) T.n_int (by decide +kernel) rfl) pa_nil))) (pe_callB (call_isiK (K := K) rfl) (by rfl) T.n_isinstance PyProof.Rows.boot_isinstance (pa_cons (pv 0) (pa_cons (pe_bltn (v := .ty "int") (by rfl) T.n_int (by decide +kernel) rfl) pa_nil))) (nomark _)))))
      (pss_one (ps_ret pe_bl))
      pss_nil)
      (pss_one (ps_ret (pe_and (pe_cmpR op_eq (pe_callB (call_isiK (K := K) rfl) (by rfl) T.n_isinstance PyProof.Rows.boot_isinstance (pa_cons (pv 1) (pa_cons (pe_bltn (v := .ty "str") (by rfl) T.n_str (by decide +kernel) rfl) pa_nil))) (pe_callB (call_isiK (K := K) rfl) (by rfl) T.n_isinstance PyProof.Rows.boot_isinstance (pa_cons (pv 0) (pa_cons (pe_bltn (v := .ty "str") (by rfl) T.n_str (by decide +kernel) rfl) pa_nil))) (nomark _)) (pe_one (pe_cmpR op_eq (pv 0) (pv 1) (by rfl)))))))))), ?_⟩
      obtain ⟨kl, hkl⟩ := kit_list K d
      obtain ⟨kt, hkt⟩ := kit_tuple K d
      obtain ⟨kb, hkb⟩ := kit_bool K d
      obtain ⟨ki, hki⟩ := kit_int K d
      obtain ⟨ks, hks⟩ := kit_str K d
      -- if due is None or found is None
      refine ⟨_, rfl, rfl, _, rfl, ?_⟩
      by_cases hn : d = .none
      · subst hn
        cases hx
        cases hy
        refine iteT ?_
        refine iteT ?_
        refine ⟨_, rfl, rfl, _, rfl, iteT ?_⟩
        refine ⟨_, rfl, rfl, ?_⟩
        exact q _ (Ex.refl _)
      · have hxn : decide (x = V.non) = false := decide_eq_false fun e => by
          subst e
          cases hx
          exact hn rfl
        have hyn : decide (y = V.non) = false := decide_eq_false fun e => by
          subst e
          cases hy
          exact hn rfl
        rw [hyn]
        refine iteF ?_
        refine ⟨_, rfl, rfl, _, rfl, ?_⟩
        rw [hxn]
        refine iteF ?_
        -- if isinstance(due, (list, tuple))
        refine ⟨_, rfl, by show 2 ≤ sizeLine; decide, fun t1 ht1 => ?_⟩
        have e1 : Ex H (upd H t1 (.tup [.ty "list", .ty "tuple"])) := Ex.new ht1
        have hx := Rep.mono e1 hx
        have hy := Rep.mono e1 hy
        refine ⟨y, t1, [.ty "list", .ty "tuple"], _, [.type "list", .type "tuple"], _, rfl, upd_same, .cons (.ty _) (.cons (.ty _) .nil), hy.ty, kit_seq K d, _, rfl, ?_⟩
        generalize upd H t1 (.tup [.ty "list", .ty "tuple"]) = H1 at e1 hx hy
        cases hs : seqD d with
        | false =>
          refine iteF ?_
          have fl : PySem.W.kitOne K (.type (tyD d)) (.type "dict") = some false ∧ x = y ∧ scal x y = true := by
            cases hx with
            | non => exact absurd rfl hn
            | bl b => cases hy; exact ⟨kit_ty (a := "bool") (by decide +kernel), rfl, rfl⟩
            | int b => cases hy; exact ⟨kit_ty (a := "int") (by decide +kernel), rfl, rfl⟩
            | str b => cases hy; exact ⟨kit_ty (a := "str") (by decide +kernel), rfl, rfl⟩
            | lst _ _ => cases hs
            | tup _ _ => cases hs
          obtain ⟨hkd, hxy, hsc⟩ := fl
          subst hxy
          refine ⟨_, rfl, x, .ty "dict", _, _, _, rfl, .ty _, hy.ty, hkd, _, rfl, iteF ?_⟩
          refine ⟨_, rfl, x, .ty "bool", _, _, _, rfl, .ty _, hy.ty, hkb, _, rfl, x, .ty "bool", _, _, _, rfl, .ty _, hx.ty, hkb, rfl, _, rfl, ?_⟩
          refine iteNS rfl ?_
          refine ⟨_, rfl, x, .ty "int", _, _, _, rfl, .ty _, hy.ty, hki, _, rfl, x, .ty "int", _, _, _, rfl, .ty _, hx.ty, hki, rfl, _, rfl, ?_⟩
          refine iteNS rfl ?_
          refine ⟨_, rfl, x, .ty "str", _, _, _, rfl, .ty _, hy.ty, hks, _, rfl, x, .ty "str", _, _, _, rfl, .ty _, hx.ty, hks, rfl, _, rfl, iteDT rfl ?_⟩
          refine ⟨_, rfl, _, rfl, hsc, ?_⟩
          rw [decide_eq_true rfl]
          exact q _ e1
        | true =>
          refine iteT ?_
          -- kinds
          refine ⟨_, rfl, x, .ty "list", _, _, _, rfl, .ty _, hx.ty, hkl, _, rfl, y, .ty "list", _, _, _, rfl, .ty _, hy.ty, hkl, rfl, _, rfl, ?_⟩
          refine iteNS rfl ?_
          refine ⟨_, rfl, x, .ty "tuple", _, _, _, rfl, .ty _, hx.ty, hkt, _, rfl, y, .ty "tuple", _, _, _, rfl, .ty _, hy.ty, hkt, rfl, _, rfl, ?_⟩
          refine iteNS rfl ?_
          -- len(found) == len(due) and all([..])
          have main : ∃ (ds : List PyData) (p1 p2 : Addr) (xs ys : List V), x = .ref p1 ∧ y = .ref p2 ∧ Reps H1 xs ds ∧ Reps H1 ys ds ∧ PyData.depthAll ds < n ∧ ds.length ≤ 90000 ∧ widAll ds ≤ 90000 ∧ ((H1 p1 = some (.lst xs) ∧ H1 p2 = some (.lst ys)) ∨ (H1 p1 = some (.tup xs) ∧ H1 p2 = some (.tup ys))) := by
            cases hx with
            | non => exact absurd rfl hn
            | bl b => cases hs
            | int b => cases hs
            | str b => cases hs
            | lst h r =>
              cases hy with
              | lst h' r' => exact ⟨_, _, _, _, _, rfl, rfl, r, r', by simp only [PyData.depth] at hd; omega, by simp only [wid] at hwd; omega, by simp only [wid] at hwd; omega, .inl ⟨h, h'⟩⟩
            | tup h r =>
              cases hy with
              | tup h' r' => exact ⟨_, _, _, _, _, rfl, rfl, r, r', by simp only [PyData.depth] at hd; omega, by simp only [wid] at hwd; omega, by simp only [wid] at hwd; omega, .inr ⟨h, h'⟩⟩
          obtain ⟨ds, p1, p2, xs, ys, rfl, rfl, rx, ry, hdn, hl1, hl2, ho⟩ := main
          have lx := rx.length
          have ly := ry.length
          have LX : LenV K (.ref p1) H1 xs.length := by
            rcases ho with ⟨h, _⟩ | ⟨h, _⟩
            · exact .inl ⟨_, sq_of h, rfl⟩
            · exact .inr ⟨_, st_of h, rfl⟩
          have LY : LenV K (.ref p2) H1 ys.length := by
            rcases ho with ⟨_, h⟩ | ⟨_, h⟩
            · exact .inl ⟨_, sq_of h, rfl⟩
            · exact .inr ⟨_, st_of h, rfl⟩
          refine ⟨_, rfl, .ref p1, _, rfl, LX, _, rfl, .ref p2, _, rfl, LY, rfl, _, rfl, iteDT (by rw [lx, ly]) ?_⟩
          -- all([same(x, y) for x, y in zip(found, due)])
          have turn : ∀ (D : Addr) (i : Nat) (v : V) (H3 H4 : Hp), i < ds.length → (H1 D = none ∧ Ex H1 H3 ∧ H3 D = some (.lst (List.replicate i (V.bl true)))) → YPair (fun i => xs[i]?) (fun i => ys[i]?) i H3 v H4 →
              gTup K 2 (gCons (gName 3) (gCons (gName 4) gNil)) v [some (V.ref p1), some (V.ref p2), none, none, none] H4 fun σ2 H5 => wipe σ2 [3, 4] = [some (V.ref p1), some (V.ref p2), none, none, none] ∧ tYes σ2 H5 fun b H6 =>
                if b = true then tCall (spSame n) [] (fun _ _ _ => False) (tCons (tVar 3) (tCons (tVar 4) tNil)) σ2 H6 fun y H7 => ∃ acc, H7 D = some (.lst acc) ∧ acc.length < sizeLine ∧
                  (fun i H' => H1 D = none ∧ Ex H1 H' ∧ H' D = some (.lst (List.replicate i (V.bl true)))) (i + 1) (upd H7 D (.lst (acc ++ [y]))) else (fun i H' => H1 D = none ∧ Ex H1 H' ∧ H' D = some (.lst (List.replicate i (V.bl true)))) (i + 1) H6 := by
            intro D i v H3 H4 hi hp hy4
            obtain ⟨T1, u1, u2, rfl, hT, rfl, g1, g2⟩ := hy4
            obtain ⟨hD, ex3, hD3⟩ := hp
            obtain ⟨d1, hd1, r1⟩ := rx.get g1
            obtain ⟨d2, hd2, r2⟩ := ry.get g2
            rw [hd1] at hd2
            cases hd2
            have ex4 : Ex H3 (upd H3 T1 (.tup [u1, u2])) := Ex.new hT
            refine ⟨T1, [u1, u2], rfl, st_of upd_same, rfl, u1, [u2], rfl, u2, [], rfl, rfl, rfl, ?_⟩
            refine ⟨u1, rfl, u2, rfl, u1, u2, d1, rfl, Rep.mono (ex3.trans ex4) r1, Rep.mono (ex3.trans ex4) r2, Nat.lt_of_le_of_lt (depth_get hd1) hdn, Nat.le_trans (wid_get hd1) hl2, fun H7 e7 => ?_⟩
            refine ⟨_, e7 _ _ (ex4 _ _ hD3), ?_, hD, ((ex3.trans ex4).trans e7).mut hD, ?_⟩
            · rw [List.length_replicate]
              exact sz_lt (by omega)
            · rw [upd_same, List.replicate_succ']
          have fin : ∀ (D : Addr) (H' : Hp), (H1 D = none ∧ Ex H1 H' ∧ H' D = some (.lst (List.replicate ds.length (V.bl true)))) → tNil [some (V.ref p1), some (V.ref p2), none, none, none] H' fun xs H2 => rAll K (V.ref D :: xs) H2 Q := by
            intro D H' hp
            refine ⟨D, List.replicate ds.length true, rfl, sq_of (hp.2.2.trans (by rw [List.map_replicate])), ?_⟩
            rw [show (List.replicate ds.length true).all id = true by simp]
            exact q _ (e1.trans hp.2.1)
          rcases ho with ⟨h1, h2⟩ | ⟨h1, h2⟩
          · refine ⟨_, rfl, _, rfl, p1, p2, xs, ys, rfl, .inl ⟨sq_of h1, sq_of h2, fun D hD => lc_it (walk_zip (n := ds.length) (by omega)) (fun i H' => H1 D = none ∧ Ex H1 H' ∧ H' D = some (.lst (List.replicate i (V.bl true)))) ⟨hD, Ex.new hD, upd_same⟩ (fun i H' _ hp => ⟨sq_of (hp.2.1 _ _ h1), sq_of (hp.2.1 _ _ h2)⟩) (fun i v H3 H4 hi hp hy4 => turn D i v H3 H4 hi hp hy4) (fun H' hp => fin D H' hp)⟩⟩
          · refine ⟨_, rfl, _, rfl, p1, p2, xs, ys, rfl, .inr ⟨st_of h1, st_of h2, fun D hD => lc_it (walk_zipT (n := ds.length) (by omega)) (fun i H' => H1 D = none ∧ Ex H1 H' ∧ H' D = some (.lst (List.replicate i (V.bl true)))) ⟨hD, Ex.new hD, upd_same⟩ (fun i H' _ hp => ⟨st_of (hp.2.1 _ _ h1), st_of (hp.2.1 _ _ h2)⟩) (fun i v H3 H4 hi hp hy4 => turn D i v H3 H4 hi hp hy4) (fun H' hp => fin D H' hp)⟩⟩
end
end Eyes

set_option Elab.async false
set_option linter.all false
set_option maxRecDepth 100000
set_option maxHeartbeats 4000000
namespace Eyes
open PySem PySem.Spec PyProof.Rows L2 Evl TL
def spPs (K : PySem.W.Frag) (C : Addr) (ok : List Ci → Prop) (g : List Ci → V) : Sp := fun vs H Q _ => ∃ (l : Addr) (us : List V) (ps : List Ci), vs = [.ref l] ∧ SqL K H l us ∧ CisAt C H us ps ∧ us.length ≤ 90000 ∧ ok ps ∧ ∀ H', Ex H H' → Q (g ps) H'
def spCi (C : Addr) (ok : Ci → Prop) (g : Ci → V) : Sp := fun vs H Q _ => ∃ (v : V) (c : Ci), vs = [v] ∧ CiAt C H v c ∧ ok c ∧ ∀ H', Ex H H' → Q (g c) H'
def spParts (C : Addr) : Sp := fun vs H Q _ => ∃ (p dx lp : Addr) (us : List V) (kind name : Str) (s d : Int) (t : Str), vs = [.ref p] ∧ H p = some (.ins C dx (flds kind name lp s d t)) ∧ H lp = some (.lst us) ∧ ∀ l, H l = none → Q (.ref l) (upd H l (.lst us))
section
variable {P : Program} {w : World} {K : PySem.W.Frag} {mg : Str → Option Value} {base : Heap} {AA : Adr}
end
end Eyes

set_option Elab.async false
set_option linter.all false
set_option maxRecDepth 100000
set_option maxHeartbeats 4000000
namespace Eyes
open PySem PySem.Spec PyProof.Rows L2 Evl TL
def inner (c : Ci) : Str := ⟨(wrapL c c.tx).toArray⟩
def spTextOf (K : PySem.W.Frag) (C : Addr) : Sp := fun vs H Q _ => ∃ (l : Addr) (us : List V) (k : Bool) (ps : List Ci), vs = [.str (kindS k), .ref l] ∧ SqL K H l us ∧ CisAt C H us ps ∧ us.length ≤ 900 ∧ (∀ c ∈ ps, c.str.length ≤ 900) ∧ ∀ H', Ex H H' → Q (.str (Ci.node k ps).str) H'
section
variable {P : Program} {w : World} {K : PySem.W.Frag} {mg : Str → Option Value} {base : Heap} {AA : Adr}
end
end Eyes

set_option Elab.async false
set_option linter.all false
set_option maxRecDepth 100000
set_option maxHeartbeats 4000000
namespace Eyes
open PySem PySem.Spec PyProof.Rows L2 Evl TL
def SqLT (K : PySem.W.Frag) (H : Hp) (a : Addr) (xs : List V) : Prop := SqL K H a xs ∨ SqT K H a xs
theorem for_lt {K : PySem.W.Frag} {j : Nat} {a : Addr} {xs : List V} {g : TG} {tb : TS} {D : Ends} {σ : L2.St} {H : Hp} (hj : σ[j]? = some (some (.ref a))) {G : Hp} (hx : SqLT K G a xs) (e0 : Ex G H) (Pv : Nat → L2.St → Hp → Prop) (h0 : Pv 0 σ H) (hl : ∀ i σ H', Pv i σ H' → Ex G H')
    (hs : ∀ i x σ H, xs[i]? = some x → Pv i σ H → g x σ H fun σ2 H2 => tb { D with nx := Pv (i + 1), ct := Pv (i + 1), bk := D.nx } σ2 H2) (hd : ∀ σ H, Pv xs.length σ H → D.nx σ H) {R : It → Hp → Prop}
    (hR : ∀ J H1, (∃ W : Nat → Nat → L2.St → Hp → Prop, (∃ m, W 0 m σ H1) ∧ ∀ i m σ H, W i m σ H →
      (J.stop i H ∧ D.nx σ H) ∨ (J.go i H ∧ ∃ N : L2.St → Hp → Prop, (∀ σ' H', N σ' H' → ∃ m', m' < m ∧ W (i + 1) m' σ' H') ∧ ∀ x H', J.yld i H x H' → g x σ H' fun σ2 H2 => tb { D with nx := N, ct := N, bk := D.nx } σ2 H2)) = R J H1) :
    iList K (tVar j) σ H R ∨ iTup K (tVar j) σ H R := by
  rcases hx with h | h
  · refine .inl ⟨_, hj, a, rfl, ⟨xs, ex_l e0 h⟩, ?_⟩
    rw [← hR]
    exact for_list Pv h0 (fun i σ H' _ p => ex_l (hl i σ H' p) h) hs hd
  · refine .inr ⟨_, hj, a, rfl, ⟨xs, ex_t e0 h⟩, ?_⟩
    rw [← hR]
    exact for_tup Pv h0 (fun i σ H' _ p => ex_t (hl i σ H' p) h) hs hd
def spFlat (K : PySem.W.Frag) (C : Addr) : Sp := fun vs H Q _ => ∃ (l : Addr) (us : List V) (k : Bool) (cs : List Ci), vs = [.str (kindS k), .ref l] ∧ SqLT K H l us ∧ CisAt C H us cs ∧ (flat k cs).length ≤ 90000 ∧ ∀ l2 ws H', H l2 = none → Ex H H' → H' l2 = some (.lst ws) → CisAt C H ws (flat k cs) → Q (.ref l2) H'
def spDd (K : PySem.W.Frag) (C : Addr) : Sp := fun vs H Q _ => ∃ (l : Addr) (us : List V) (cs : List Ci), vs = [.ref l] ∧ SqL K H l us ∧ CisAt C H us cs ∧ cs.length ≤ 90000 ∧ (∀ c ∈ cs, c.str.length ≤ 900) ∧ ∀ l2 ws H', H l2 = none → Ex H H' → H' l2 = some (.lst ws) → CisAt C H ws (dd [] cs) → Q (.ref l2) H'
section
variable {P : Program} {w : World} {K : PySem.W.Frag} {mg : Str → Option Value} {base : Heap} {AA : Adr}
end
end Eyes

set_option Elab.async false
set_option linter.all false
set_option maxRecDepth 100000
set_option maxHeartbeats 4000000
namespace Eyes
open PySem PySem.Spec PyProof.Rows L2 Evl TL
def spInit (K : PySem.W.Frag) (C : Addr) : Sp := fun vs H Q _ => ∃ (x dx l : Addr) (us : List V) (c : Ci) (G : Hp), vs = [.ref x, .str c.kind, .str c.name, .ref l] ∧ G x = none ∧ Ex G H ∧ H x = some (.ins C dx []) ∧ SqL K G l us ∧ CisAt C G us c.parts ∧ us.length ≤ 900 ∧ (∀ d ∈ c.parts, d.str.length ≤ 900) ∧ (∀ k, c ≠ .node k []) ∧
  ∀ H', Ex G H' → CiAt C H' (.ref x) c → Q .non H'
section
variable {P : Program} {w : World} {K : PySem.W.Frag} {mg : Str → Option Value} {base : Heap} {AA : Adr}
end
end Eyes

set_option Elab.async false
set_option linter.all false
set_option maxRecDepth 100000
set_option maxHeartbeats 4000000
namespace Eyes
open PySem PySem.Spec PyProof.Rows L2 Evl TL
def spBuilt (K : PySem.W.Frag) (C : Addr) : Sp := fun vs H Q _ => ∃ (l : Addr) (us : List V) (k : Bool) (cs : List Ci), vs = [.str (kindS k), .ref l] ∧ SqLT K H l us ∧ CisAt C H us cs ∧ Good k cs ∧ ∀ v H', Ex H H' → CiAt C H' v (mkC k cs) → Q v H'
def spSign (C : Addr) (k : Bool) : Sp := fun vs H Q _ => ∃ (x y : V) (c d : Ci), vs = [x, y] ∧ CiAt C H x c ∧ CiAt C H y d ∧ Good k [c, d] ∧ ∀ v H', Ex H H' → CiAt C H' v (mkC k [c, d]) → Q v H'
section
variable {P : Program} {w : World} {K : PySem.W.Frag} {mg : Str → Option Value} {base : Heap} {AA : Adr}
end
end Eyes

set_option Elab.async false
set_option linter.all false
set_option maxRecDepth 100000
set_option maxHeartbeats 4000000
namespace Eyes
open PySem PySem.Spec PyProof.Rows L2 Evl TL
theorem Rep.node {H : Hp} {v : V} {c : Ci} (h : Rep H v c.data) : ∃ (a : Addr) (x : V), v = .ref a ∧ H a = some (.tup [.str c.kind, x]) ∧ (∀ n, c = .eye n → x = .str n) ∧ (∀ k ps, c = .node k ps → ∃ b ws, x = .ref b ∧ H b = some (.tup ws) ∧ Reps H ws (datas ps)) := by
  cases c with
  | eye n =>
    have h : Rep H v (.tuple [.str "eye", .str n]) := h
    cases h with
    | tup h r =>
      cases r with
      | cons h1 r =>
        cases r with
        | cons h2 r =>
          cases r
          cases h1
          cases h2
          exact ⟨_, _, rfl, h, fun m e => (by injection e with e; rw [e]), fun k ps e => (by cases e)⟩
  | node k ps =>
    have h : Rep H v (.tuple [.str (kindS k), .tuple (datas ps)]) := h
    cases h with
    | tup h r =>
      cases r with
      | cons h1 r =>
        cases r with
        | cons h2 r =>
          cases r
          cases h1
          cases h2 with
          | tup h3 r3 => exact ⟨_, _, rfl, h, fun m e => (by cases e), fun j qs e => (by injection e with e1 e2; rw [← e2]; exact ⟨_, _, rfl, h3, r3⟩)⟩
theorem Reps.append {H : Hp} : ∀ {us ws : List V} {cs ds : List PyData}, Reps H us cs → Reps H ws ds → Reps H (us ++ ws) (cs ++ ds)
  | _, _, _, _, .nil, s => s
  | _, _, _, _, .cons h r, s => .cons h (Reps.append r s)
mutual
theorem Rep.dp {K : PySem.W.Frag} {H : Hp} : ∀ {v : V} {d : PyData}, Rep H v d → Dp K H v d
  | _, _, .non => .non
  | _, _, .bl b => .bl b
  | _, _, .int i => .int i
  | _, _, .str x => .str x
  | _, _, .lst h r => .lst (sq_of h) (Reps.dp r)
  | _, _, .tup h r => .tup (st_of h) (Reps.dp r)
theorem Reps.dp {K : PySem.W.Frag} {H : Hp} : ∀ {v : List V} {d : List PyData}, Reps H v d → DpAll K H v d
  | _, _, .nil => .nil
  | _, _, .cons h r => .cons (Rep.dp h) (Reps.dp r)
end
section
variable {P : Program} {w : World} {K : PySem.W.Frag} {mg : Str → Option Value} {base : Heap} {AA : Adr}
def spJoin (K : PySem.W.Frag) : Sp := fun vs H Q _ => ∃ (l : Addr) (us : List V) (k : Bool) (cs : List Ci), vs = [.str (kindS k), .ref l] ∧ SqL K H l us ∧ Reps H us (datas cs) ∧ (∀ c ∈ cs, c.ok) ∧ (∀ c ∈ cs, c.depth ≤ 25) ∧ (flat k cs).length ≤ 90000 ∧ ∀ v H', Ex H H' → Rep H' v (mkC k cs).data → Q v H'
end
end Eyes

set_option Elab.async false
set_option linter.all false
set_option maxRecDepth 100000
set_option maxHeartbeats 4000000
namespace Eyes
open PySem PySem.Spec PyProof.Rows L2 Evl
theorem kw_all_partings_0_many : KwOk "all_partings" s_all_partings p_all_partings 0 ["many"] [0] := fun _ _ _ _ _ _ us ws h1 h2 => match us, ws, h1, h2 with | [], [_], _, _ => rfl
abbrev letters : Str := "abcdefghijklmnopqrstuvwxyz"
/-! ### values of all kinds -/
inductive Tk where
  | s (z : Str) | i (n : Int) | b (c : Bool) | o
def okS (z : Str) : Prop := z.length ≤ 4000 ∧ ∀ c ∈ z.cps.toList, c < 128
def Knd (K : PySem.W.Frag) (H : Hp) (v : V) : Tk → Prop
  | .s z => v = .str z ∧ okS z
  | .i n => v = .int n
  | .b c => v = .bl c
  | .o => ∃ t, TyX K H v t ∧ PySem.W.kitOne K t (.type "str") = some false ∧ PySem.W.kitOne K t (.type "int") = some false ∧ PySem.W.kitOne K t (.type "bool") = some false
theorem TyX.mono {K : PySem.W.Frag} {H H' : Hp} {v : V} {t : Value} (e : Ex H H') (h : TyX K H v t) : TyX K H' v t := by
  cases h with
  | base h =>
    cases h with
    | non => exact .base .non
    | bl b => exact .base (.bl b)
    | int b => exact .base (.int b)
    | str b => exact .base (.str b)
    | flt b => exact .base (.flt b)
    | lst h => exact .base (.lst (e _ _ h))
    | frz h => exact .base (.frz (e _ _ h))
    | tup h => exact .base (.tup (e _ _ h))
    | dK h => exact .base (.dK (e _ _ h))
    | dT h => exact .base (.dT (e _ _ h))
    | ins h h1 h2 h3 h4 h5 => exact .base (.ins (e _ _ h) h1 h2 h3 h4 h5)
  | byt b => exact .byt b
  | set h => exact .set (e _ _ h)
  | kList h c => exact .kList h c
  | kTuple h c => exact .kTuple h c
  | kDict h c => exact .kDict h c
  | fTuple h => exact .fTuple (e _ _ h)
  | fDict h => exact .fDict (e _ _ h)
theorem Knd.mono {K : PySem.W.Frag} {H H' : Hp} {v : V} {k : Tk} (e : Ex H H') (h : Knd K H v k) : Knd K H' v k := by
  cases k with
  | s z => exact h
  | i n => exact h
  | b c => exact h
  | o => obtain ⟨t, h1, h2⟩ := h; exact ⟨t, TyX.mono e h1, h2⟩
def isS : Tk → Bool | .s _ => true | _ => false
def isI : Tk → Bool | .i _ => true | .b _ => true | _ => false
def isB : Tk → Bool | .b _ => true | _ => false
theorem Knd.ty {K : PySem.W.Frag} {H : Hp} {v : V} {k : Tk} (h : Knd K H v k) : ∃ t, TyX K H v t ∧ PySem.W.kitOne K t (.type "str") = some (isS k) ∧ PySem.W.kitOne K t (.type "int") = some (isI k) ∧ PySem.W.kitOne K t (.type "bool") = some (isB k) := by
  cases k with
  | s z => obtain ⟨rfl, _⟩ := h; exact ⟨_, .base (.str z), kit_ty (r := true) (by decide +kernel), kit_ty (r := false) (by decide +kernel), kit_ty (r := false) (by decide +kernel)⟩
  | i n => cases h; exact ⟨_, .base (.int n), kit_ty (r := false) (by decide +kernel), kit_ty (r := true) (by decide +kernel), kit_ty (r := false) (by decide +kernel)⟩
  | b c => cases h; exact ⟨_, .base (.bl c), kit_ty (r := false) (by decide +kernel), kit_ty (r := true) (by decide +kernel), kit_ty (r := true) (by decide +kernel)⟩
  | o => exact h
def nameS (z : Str) : Bool := decide (1 ≤ z.length) && decide (z.length ≤ 6) && z.cps.toList.all fun c => decide (c ∈ letters.cps.toList)
def nameK : Tk → Bool | .s z => nameS z | _ => false
def numK (lo hi : Int) : Tk → Bool | .i n => decide (lo ≤ n) && decide (n ≤ hi) | _ => false
def spName (K : PySem.W.Frag) : Sp := fun vs H Q _ => ∃ (v : V) (k : Tk), vs = [v] ∧ Knd K H v k ∧ ∀ H', Ex H H' → Q (.bl (nameK k)) H'
def spNum (K : PySem.W.Frag) : Sp := fun vs H Q _ => ∃ (v : V) (k : Tk) (lo hi : Int), vs = [v, .int lo, .int hi] ∧ Knd K H v k ∧ Q (.bl (numK lo hi k)) H
section
variable {P : Program} {w : World} {K : PySem.W.Frag} {mg : Str → Option Value} {base : Heap} {AA : Adr}
end
end Eyes

set_option Elab.async false
set_option linter.all false
set_option maxRecDepth 100000
set_option maxHeartbeats 4000000
namespace Eyes
open PySem PySem.Spec PyProof.Rows L2 Evl TL
def spWords (n : Nat) : Sp := fun vs H Q _ => ∃ (v : V) (c : Ci), vs = [v] ∧ Rep H v c.data ∧ c.depth < n ∧ c.fine ∧ ∀ H', Ex H H' → Q (.str c.str) H'
def Ci.big (c : Ci) : Prop := c.ok ∧ c.size ≤ 9000
theorem Ci.fine.big {c : Ci} (h : c.fine) : c.big := ⟨h.1, Nat.le_trans h.2 (by decide)⟩
def spNumC (g : Ci → Nat) (n : Nat) : Sp := fun vs H Q _ => ∃ (v : V) (c : Ci), vs = [v] ∧ Rep H v c.data ∧ c.depth < n ∧ c.big ∧ ∀ H', Ex H H' → Q (.int (g c)) H'
def spCirc (C : Addr) (n : Nat) : Sp := fun vs H Q _ => ∃ (v : V) (c : Ci), vs = [v] ∧ Rep H v c.data ∧ c.depth < n ∧ c.depth ≤ 20 ∧ c.size ≤ 60 ∧ c.norm ∧ ∀ v H', Ex H H' → CiAt C H' v c → Q v H'
section
variable {P : Program} {w : World} {K : PySem.W.Frag} {mg : Str → Option Value} {base : Heap} {AA : Adr}
theorem cut_from (xs : List V) : cutV xs (some 1) none = xs.drop 1 := by
  show cutV xs (some ((1 : Nat) : Int)) none = _
  unfold cutV
  rw [HT.sIx_none, HT.sIx_nat]
  cases xs with
  | nil => rfl
  | cons x r =>
    rw [Nat.min_eq_left (by simp)]
    show (r.take _) = r
    rw [List.take_of_length_le (by simp)]
def spEye (C : Addr) : Sp := fun vs H Q _ => ∃ (z : Str), vs = [.str z] ∧ nm z ∧ ∀ v H', Ex H H' → CiAt C H' v (.eye z) → Q v H'
end
end Eyes

set_option Elab.async false
set_option linter.all false
set_option maxRecDepth 100000
set_option maxHeartbeats 4000000
namespace Eyes
open PySem PySem.Spec PyProof.Rows L2 Evl TL
def nmB (z : Str) : Bool := decide (1 ≤ z.length) && decide (z.length ≤ 6) && z.cps.toList.all fun c => decide (97 ≤ c) && decide (c ≤ 122)
def nmV : V → Bool | .str z => nmB z | _ => false
def spTtl : Sp := fun vs H Q _ => ∃ (b tk : Addr) (G : Hp) (ts : List Str), vs = [.ref b, .ref tk] ∧ At b G H ∧ G tk = some (.lst (ts.map V.str)) ∧ ts.length ≤ 20 ∧ ∀ z H', nm z → At b G H' → Q (.str z) H'
section
variable {P : Program} {w : World} {K : PySem.W.Frag} {mg : Str → Option Value} {base : Heap} {AA : Adr}
end
end Eyes

set_option Elab.async false
set_option linter.all false
set_option maxRecDepth 100000
set_option maxHeartbeats 4000000
namespace Eyes
open PySem PySem.Spec PyProof.Rows L2 Evl TL
def spTtls : Sp := fun vs H Q _ => ∃ (b : Addr) (z : Int) (G : Hp), vs = [.ref b, .int z] ∧ At b G H ∧ 0 ≤ z ∧ z ≤ 21 ∧ ∀ (l : Addr) (ts : List Str) (H' : Hp), G l = none → At b (upd G l (.lst (ts.map V.str))) H' → (ts.length : Int) = z → (∀ t ∈ ts, nm t) → Q (.ref l) H'
section
variable {P : Program} {w : World} {K : PySem.W.Frag} {mg : Str → Option Value} {base : Heap} {AA : Adr}
end
end Eyes

set_option Elab.async false
set_option linter.all false
set_option maxRecDepth 100000
set_option maxHeartbeats 4000000
namespace Eyes
open PySem PySem.Spec PyProof.Rows L2 Evl TL
theorem At.all {b : Addr} {G H0 H : Hp} (h : At b G H0) (e : Ex H0 H) : ∃ G', At b G' H ∧ Ex G G' ∧ ∀ a, (∀ xs, H0 a ≠ some (.lst xs)) → G' a = H a := by
  obtain ⟨c, ns, i, r, m, n, B⟩ := h
  refine ⟨fun a => if a = b ∨ a = c then none else H a, ⟨c, ns, i, r, m, n, if_pos (.inl rfl), if_pos (.inr rfl), fun a o ha => ?_, e _ _ B.at_, e _ _ B.cells, B.ne, B.i0, B.r0, B.m0, B.m1⟩, fun a o ha => ?_, fun a ha => ?_⟩
  · by_cases hab : a = b ∨ a = c
    · rw [show (if a = b ∨ a = c then none else H a) = none from if_pos hab] at ha
      cases ha
    · rw [show (if a = b ∨ a = c then none else H a) = H a from if_neg hab] at ha
      exact ha
  · have hab : ¬ (a = b ∨ a = c) := by
      rintro (rfl | rfl)
      · rw [B.nb] at ha
        cases ha
      · rw [B.nc] at ha
        cases ha
    exact (show (if a = b ∨ a = c then none else H a) = H a from if_neg hab).trans (e _ _ (B.ex _ _ ha))
  · refine if_neg ?_
    rintro (rfl | rfl)
    · exact ha _ B.at_
    · exact ha _ B.cells
mutual
theorem Rep.tups {H H' : Hp} (e : ∀ a xs, H a = some (.tup xs) → H' a = some (.tup xs)) : ∀ {c : Ci} {v : V}, Rep H v c.data → Rep H' v c.data
  | .eye n, v, h => by
    have h : Rep H v (.tuple [.str "eye", .str n]) := h
    cases h with
    | tup h r =>
      cases r with
      | cons h1 r =>
        cases r with
        | cons h2 r =>
          cases r
          cases h1
          cases h2
          exact .tup (e _ _ h) (.cons (.str _) (.cons (.str _) .nil))
  | .node k ps, v, h => by
    have h : Rep H v (.tuple [.str (kindS k), .tuple (datas ps)]) := h
    cases h with
    | tup h r =>
      cases r with
      | cons h1 r =>
        cases r with
        | cons h2 r =>
          cases r
          cases h1
          cases h2 with
          | tup h3 r3 => exact .tup (e _ _ h) (.cons (.str _) (.cons (.tup (e _ _ h3) (Reps.tups e r3)) .nil))
theorem Reps.tups {H H' : Hp} (e : ∀ a xs, H a = some (.tup xs) → H' a = some (.tup xs)) : ∀ {cs : List Ci} {vs : List V}, Reps H vs (datas cs) → Reps H' vs (datas cs)
  | [], vs, h => by
    have h : Reps H vs [] := h
    cases h
    exact .nil
  | c :: r, vs, h => by
    have h : Reps H vs (c.data :: datas r) := h
    cases h with
    | cons h1 h2 => exact .cons (Rep.tups e h1) (Reps.tups e h2)
end
theorem At.node {b : Addr} {G H0 H : Hp} {v : V} {c : Ci} (h : At b G H0) (e : Ex H0 H) (hv : Rep H v c.data) : ∃ G', At b G' H ∧ Ex G G' ∧ Rep G' v c.data := by
  obtain ⟨G', h1, h2, h3⟩ := h.all e
  refine ⟨G', h1, h2, hv.tups fun a xs ha => ?_⟩
  rw [h3 a fun ys hy => ?_]
  · exact ha
  · rw [e _ _ hy] at ha
    cases ha
theorem upd_self {G : Hp} {p : Addr} {o : HO} (h : G p = some o) : upd G p o = G := by
  funext a
  by_cases e : a = p
  · subst e
    rw [upd_same, h]
  · exact upd_ne e
theorem At.put' {b : Addr} {G H : Hp} {p : Addr} {o o' : HO} (h : At b G H) (hp : G p = some o) : At b (upd G p o') (upd H p o') := by
  have h2 : At b (upd G p o) H := by rw [upd_self hp]; exact h
  exact h2.put
def spNode (n : Nat) : Sp := fun vs H Q _ => ∃ (b tl : Addr) (d : Nat) (G : Hp) (ts : List Str), vs = [.ref b, .ref tl, .int d] ∧ At b G H ∧ G tl = some (.lst (ts.map V.str)) ∧ ts ≠ [] ∧ ts.length ≤ 1000 ∧ (∀ t ∈ ts, nm t) ∧ d < n ∧ d ≤ 8 ∧
  ∀ (v : V) (c : Ci) (G' H' : Hp), Ex G G' → At b G' H' → Rep G' v c.data → c.norm → c.depth ≤ d → c.size ≤ 3 ^ d → Q v H'
section
variable {P : Program} {w : World} {K : PySem.W.Frag} {mg : Str → Option Value} {base : Heap} {AA : Adr}
end
end Eyes

set_option Elab.async false
set_option linter.all false
set_option maxRecDepth 100000
set_option maxHeartbeats 4000000
namespace Eyes
open PySem PySem.Spec PyProof.Rows L2 Evl TL
def spLadder : Sp := fun vs H Q _ => ∃ (b tl : Addr) (d : Nat) (G : Hp) (ts : List Str), vs = [.ref b, .ref tl, .int d] ∧ At b G H ∧ G tl = some (.lst (ts.map V.str)) ∧ ts ≠ [] ∧ ts.length ≤ 1000 ∧ (∀ t ∈ ts, nm t) ∧ d ≤ 24 ∧
  ∀ (v : V) (c : Ci) (G' H' : Hp), Ex G G' → At b G' H' → Rep G' v c.data → c.norm → c.depth ≤ d → c.size ≤ d + 1 → Q v H'
section
variable {P : Program} {w : World} {K : PySem.W.Frag} {mg : Str → Option Value} {base : Heap} {AA : Adr}
end
end Eyes

set_option Elab.async false
set_option linter.all false
set_option maxRecDepth 100000
set_option maxHeartbeats 4000000
namespace Eyes
open PySem PySem.Spec PyProof.Rows L2 Evl TL
/-! ### partings: rows of numbers -/
def nvs (p : List Nat) : List V := p.map fun x : Nat => V.int (x : Int)
theorem nvs_len {p : List Nat} : (nvs p).length = p.length := List.length_map ..
theorem nvs_get {p : List Nat} {i x : Nat} (h : p[i]? = some x) : (nvs p)[i]? = some (.int x) := by
  unfold nvs
  rw [List.getElem?_map, h]
  rfl
theorem nvs_set {p : List Nat} {i x : Nat} : (nvs p).set i (.int x) = nvs (p.set i x) := by
  unfold nvs
  rw [List.map_set]
theorem rgV_range (n : Nat) : rgV 0 ((n : Int) + 1) = nvs (List.range (n + 1)) := by
  unfold rgV nvs
  rw [show ((n : Int) + 1 - 0).toNat = n + 1 by omega]
  refine List.map_congr_left fun i _ => ?_
  rw [Int.zero_add]
theorem lead_get {n : Nat} {p L : List Nat} (h : Lead n p L) {e : Nat} (he : e ≤ n) : atI (nvs L) (e : Int) = some (.int (L.getD e 0 : Nat)) := by
  have hl : e < L.length := by rw [h.len]; omega
  refine atI_nat (nvs_get ?_)
  rw [List.getD_eq_getElem?_getD, List.getElem?_eq_getElem hl]
  rfl
def end5 : L2.St → Hp → Nat := fun σ _ => match σ with
  | [_, _, _, _, _, some (.int e), _] => e.toNat
  | _ => 0
theorem two_min {r s : Nat} {m : Int} (h1 : m ∈ [(r : Int), (s : Int)]) (h2 : ∀ y, y ∈ [(r : Int), (s : Int)] → m ≤ y) : m = ((min r s : Nat) : Int) := by
  have a := h2 r (by simp)
  have b := h2 s (by simp)
  rcases List.mem_cons.mp h1 with rfl | h1
  · omega
  · rcases List.mem_cons.mp h1 with rfl | h1
    · omega
    · cases h1
theorem two_max {r s : Nat} {m : Int} (h1 : m ∈ [(r : Int), (s : Int)]) (h2 : ∀ y, y ∈ [(r : Int), (s : Int)] → y ≤ m) : m = ((max r s : Nat) : Int) := by
  have a := h2 r (by simp)
  have b := h2 s (by simp)
  rcases List.mem_cons.mp h1 with rfl | h1
  · omega
  · rcases List.mem_cons.mp h1 with rfl | h1
    · omega
    · cases h1
def spApart : Sp := fun vs H Q _ => ∃ n : Nat, vs = [.int n] ∧ n ≤ 4096 ∧ ∀ p, H p = none → Q (.ref p) (upd H p (.tup (nvs (alone n))))
def inN (n : Nat) (l : List (Nat × Nat)) : Prop := ∀ xy ∈ l, (1 ≤ xy.1 ∧ xy.1 ≤ n) ∧ 1 ≤ xy.2 ∧ xy.2 ≤ n
def Prs (K : PySem.W.Frag) (H : Hp) (vs : List V) (l : List (Nat × Nat)) : Prop := vs.length = l.length ∧ ∀ (i : Nat) v, vs[i]? = some v → ∃ q xy, v = .ref q ∧ l[i]? = some xy ∧ SqT K H q [.int xy.1, .int xy.2]
theorem Prs.mono {K : PySem.W.Frag} {H H' : Hp} {vs : List V} {l : List (Nat × Nat)} (h : Prs K H vs l) (e : Ex H H') : Prs K H' vs l :=
  ⟨h.1, fun i v hv => by
    obtain ⟨q, xy, a, b, c⟩ := h.2 i v hv
    exact ⟨q, xy, a, b, ex_t e c⟩⟩
def spLinked (K : PySem.W.Frag) : Sp := fun vs H Q _ => ∃ (n : Nat) (a : Addr) (ws : List V) (l : List (Nat × Nat)), vs = [.int n, .ref a] ∧ n ≤ 4096 ∧ SqLT K H a ws ∧ Prs K H ws l ∧ inN n l ∧ ∀ p H', Ex H H' → H p = none → H' p = some (.tup (nvs (mrgs (alone n) l))) → Q (.ref p) H'
section
variable {P : Program} {w : World} {K : PySem.W.Frag} {mg : Str → Option Value} {base : Heap} {AA : Adr}
theorem ok_linked (T : Txt K mg AA) : Pr P w K mg base "linked" s_linked p_linked 1 (spLinked K) := by
  refine pr_mk T.f_linked sc_linked (fun vs H Q E h => ?_) (fun f cdv A outer s H vs Q E hr h => ?_)
  · obtain ⟨n, a, ws, l, rfl, _⟩ := h
    rfl
  · obtain ⟨n, a, ws, l, rfl, hn, ha, hps, hin, q⟩ := h
    refine ⟨_, (pss_cons (ps_set (i := 2) sc_linked.nd rfl (.inl rfl) (pe_listRg rfl (by rfl) T.n_list (prg_1 (by rfl) T.n_range (pe_op op_add (pv 0) pe_int))))
      (pss_cons (ps_for PassesOwn.never rfl (pi_or (pi_list (pv 1)) (pi_tup (pv 1))) (pg_name (i := 3) sc_linked.nd rfl (.inl rfl))
      (pss_cons (ps_set (i := 4) sc_linked.nd rfl (.inl rfl) (pe_lst pa_nil))
      (pss_cons (ps_for PassesOwn.never rfl (pi_tup (pv 3)) (pg_name (i := 5) sc_linked.nd rfl (.inl rfl))
      (pss_cons (ps_while PassesOwn.never (pt_cmpR op_ne (pe_ix (ix_listK (K := K) rfl) (pv 2) (pv 5) (fun _ _ => rfl)) (pv 5) (nomark _))
      (pss_cons (ps_asg (pe_ix (ix_listK (K := K) rfl) (pv 2) (pe_ix (ix_listK (K := K) rfl) (pv 2) (pv 5) (fun _ _ => rfl)) (fun _ _ => rfl)) (pg_sub (pv 2) (pv 5) set_list))
      (pss_one (ps_set (i := 5) sc_linked.nd rfl (.inl rfl) (pe_ix (ix_listK (K := K) rfl) (pv 2) (pv 5) (fun _ _ => rfl))))))
      (pss_one (ps_expr (pe_bm PySem.F.plainAttrs_list PySem.F.slot_list_append PySem.F.type_list_append mt_append (pv 4) (pa_cons (pv 5) pa_nil))))))
      (pss_one (ps_asg (pe_callB (cr_min rfl) (by rfl) T.n_min PyProof.Rows.boot_min (pa_cons (pv 4) pa_nil)) (pg_sub (pv 2) (pe_callB (cr_max rfl) (by rfl) T.n_max PyProof.Rows.boot_max (pa_cons (pv 4) pa_nil)) set_list))))))
      (pss_cons (ps_for PassesOwn.never rfl (pi_range2 (by rfl) T.n_range (pa_cons pe_int (pa_cons (pe_op op_add (pv 0) pe_int) pa_nil))) (pg_name (i := 6) sc_linked.nd rfl (.inl rfl))
      (pss_one (ps_asg (pe_ix (ix_listK (K := K) rfl) (pv 2) (pe_ix (ix_listK (K := K) rfl) (pv 2) (pv 6) (fun _ _ => rfl)) (fun _ _ => rfl)) (pg_sub (pv 2) (pv 6) set_list))))
      (pss_one (ps_ret (pe_callTy call_tuple_of (by rfl) T.n_tuple PyProof.Rows.boot_tuple (pa_cons (pe_slice sl_list (pv 2) (po_some pe_int) po_none) pa_nil))))))), ?_⟩
    -- lead = list(range(many + 1))
    refine ⟨_, rfl, n, 1, rfl, rfl, _, rfl, RgOk.of_le (by omega) (by omega) (by omega) (by omega), fun p np => ?_⟩
    rw [rgV_range]
    have e1 : Ex H (upd H p (.lst (nvs (List.range (n + 1))))) := Ex.new np
    generalize hH1 : upd H p _ = H1 at e1
    have hp1 : H1 p = some (.lst (nvs (List.range (n + 1)))) := by rw [← hH1]; exact upd_same
    -- for pair in pairs
    refine for_lt (j := 1) rfl ha e1 (fun i σ H' => ∃ (y3 y4 y5 y6 : Option V) (L : List Nat), σ = [some (.int n), some (.ref a), some (.ref p), y3, y4, y5, y6] ∧ Ex H H' ∧ H' p = some (.lst (nvs L)) ∧ Lead n (mrgs (alone n) (l.take i)) L) ⟨none, none, none, none, _, rfl, e1, hp1, lead_new n⟩ (fun i σ H' hp => ?_) (fun i x σ H' hx hp => ?_) (fun σ H' hp => ?_) (fun _ _ => rfl)
    · obtain ⟨_, _, _, _, _, rfl, e, _⟩ := hp
      exact e
    · obtain ⟨y3, y4, y5, y6, L, rfl, e2, hL, hld⟩ := hp
      obtain ⟨qa, ⟨x, y⟩, rfl, hxy, hq⟩ := hps.2 i x hx
      have hxyN := hin _ (List.mem_of_getElem? hxy)
      -- ends = []
      refine ⟨by show 0 ≤ sizeLine; decide, fun b nb => ?_⟩
      have hpb : p ≠ b := ne_of_none hL nb
      have nbH : H b = none := fresh_back e2 nb
      have hP : IsP n (mrgs (alone n) (l.take i)) := isP_mrgs (isP_alone n) fun z hz => hin z (List.mem_of_mem_take hz)
      rw [show l.take (i + 1) = l.take i ++ [(x, y)] by rw [List.take_add_one, hxy]; rfl]
      rw [mrgs_snoc]
      generalize hPP : mrgs (alone n) (l.take i) = P at hP hld
      -- for end in pair
      refine ⟨_, rfl, qa, rfl, ⟨_, ex_t (e2.trans (Ex.new nb)) hq⟩, ?_⟩
      refine for_tup (xs := [.int x, .int y]) (fun j σ H' => ∃ (y5 y6 : Option V) (L : List Nat), σ = [some (.int n), some (.ref a), some (.ref p), some (.ref qa), some (.ref b), y5, y6] ∧ Ex H H' ∧ H' p = some (.lst (nvs L)) ∧ H' b = some (.lst (nvs (([x, y].take j).map (itm P)))) ∧ Lead n P L) ⟨_, _, L, rfl, e2.trans (Ex.new nb), (upd_ne hpb).trans hL, upd_same, hld⟩ (fun j σ H' _ hp => ?_) (fun j v σ H' hv hp => ?_) (fun σ H' hp => ?_)
      · obtain ⟨_, _, _, rfl, e, _⟩ := hp
        exact ex_t e hq
      · obtain ⟨y5, y6, L, rfl, e3, hL, hb, hld⟩ := hp
        have hz : ∃ z : Nat, v = .int z ∧ [x, y][j]? = some z ∧ 1 ≤ z ∧ z ≤ n := by
          match j, hv with
          | 0, hv => exact ⟨x, (Option.some.inj hv).symm, rfl, hxyN.1⟩
          | 1, hv => exact ⟨y, (Option.some.inj hv).symm, rfl, hxyN.2⟩
        obtain ⟨z, rfl, hz, hz1, hz2⟩ := hz
        -- while lead[end] != end
        refine while_by (fun σ H' => ∃ (e : Nat) (L : List Nat), σ = [some (.int n), some (.ref a), some (.ref p), some (.ref qa), some (.ref b), some (.int e), y6] ∧ Ex H H' ∧ H' p = some (.lst (nvs L)) ∧ H' b = some (.lst (nvs (([x, y].take j).map (itm P)))) ∧ Lead n P L ∧ 1 ≤ e ∧ e ≤ n ∧ itm P e = itm P z) end5 ⟨z, L, rfl, e3, hL, hb, hld, hz1, hz2, rfl⟩ (fun σ H' hp => ?_) (fun σ H' Q Q' hQ h => ?_)
        · obtain ⟨e, L, rfl, e3, hL, hb, hld, he1, he2, hez⟩ := hp
          refine ⟨_, rfl, _, rfl, p, _, e, _, rfl, rfl, sq_of hL, lead_get hld he2, _, rfl, rfl, _, rfl, ite2 (fun hne => ?_) (fun hne => ?_)⟩
          · have hf := hld.to e he1 he2
            have hfe := hld.le e he2
            have hne : L.getD e 0 ≠ e := fun z => by
              rw [z] at hne
              simp at hne
            have hg := hld.to (L.getD e 0) hf.1 (by omega)
            have hgf := hld.le (L.getD e 0) (by omega)
            have hld2 := hld.half he1 he2
            have hel : e < L.length := by rw [hld.len]; omega
            have hge : (L.set e (L.getD (L.getD e 0) 0)).getD e 0 = L.getD (L.getD e 0) 0 := by rw [getD_set hel, if_pos rfl]
            refine ⟨_, rfl, _, rfl, _, rfl, p, _, e, _, rfl, rfl, sq_of hL, lead_get hld he2, p, _, _, _, rfl, rfl, sq_of hL, lead_get hld (by omega), _, rfl, _, rfl, p, _, _, e, rfl, rfl, hL, ixN_nat (by rw [nvs_len]; exact hel), ?_⟩
            rw [nvs_set]
            refine ⟨_, rfl, _, rfl, p, _, e, _, rfl, rfl, sq_of upd_same, lead_get hld2 he2, ?_⟩
            rw [hge]
            refine ⟨⟨L.getD (L.getD e 0) 0, _, rfl, e3.mut np, upd_same, (upd_ne hpb.symm).trans hb, hld2, hg.1, by omega, by rw [hg.2, hf.2, hez]⟩, ?_⟩
            show (((L.getD (L.getD e 0) 0 : Nat) : Int)).toNat < ((e : Nat) : Int).toNat
            omega
          · have he : L.getD e 0 = e := by
              have : decide (V.int ((L.getD e 0 : Nat) : Int) = V.int (e : Int)) = true := by
                cases h : decide (V.int ((L.getD e 0 : Nat) : Int) = V.int (e : Int)) with
                | true => rfl
                | false => exact absurd (by rw [h]; rfl) hne
              have := of_decide_eq_true this
              injection this with this
              omega
            have hz' : itm P z = e := by rw [← hez]; exact hld.end_ e he1 he2 he
            -- ends.append(end)
            refine ⟨_, rfl, .inl ⟨rfl, _, sq_of hb⟩, _, rfl, b, _, _, rfl, rfl, hb, ?_, _, _, L, rfl, e3.mut nbH, (upd_ne hpb).trans hL, ?_, hld⟩
            · rw [nvs_len, List.length_map, List.length_take]
              have : 2 < sizeLine := by decide
              have : [x, y].length = 2 := rfl
              omega
            · rw [List.take_add_one, hz, List.map_append, upd_same]
              show some (HO.lst _) = some (.lst (nvs (_ ++ [itm P z])))
              rw [hz']
              unfold nvs
              rw [List.map_append]
              rfl
        · obtain ⟨a1, a2, a3, a4, a5, a6, a7, a8, a9, a10, a11, a12, a13, a14, a15, a16, a17, a18⟩ := h
          exact ⟨a1, a2, a3, a4, a5, a6, a7, a8, a9, a10, a11, a12, a13, a14, a15, a16, a17, hQ _ _ a18⟩
      · -- lead[max(ends)] = min(ends)
        obtain ⟨y5, y6, L, rfl, e3, hL, hb, hld⟩ := hp
        have hb : H' b = some (.lst ([(itm P x : Int), (itm P y : Int)].map V.int)) := hb
        have ax := hP.lo x hxyN.1.1 hxyN.1.2
        have ay := hP.lo y hxyN.2.1 hxyN.2.2
        have hm : max (itm P x) (itm P y) < L.length := by rw [hld.len]; omega
        refine ⟨_, rfl, b, _, rfl, sq_of hb, Nat.zero_lt_succ _, fun m hm1 hm2 => ?_⟩
        rw [two_min hm1 hm2]
        refine ⟨_, rfl, _, rfl, b, _, rfl, sq_of hb, Nat.zero_lt_succ _, fun m2 hm3 hm4 => ?_⟩
        rw [two_max hm3 hm4]
        refine ⟨p, _, _, _, rfl, rfl, hL, ixN_nat (by rw [nvs_len]; exact hm), _, _, _, _, _, rfl, e3.mut np, ?_, hld.join hP ⟨ax.1, by omega⟩ ⟨ay.1, by omega⟩ rfl rfl (hP.rt x hxyN.1.1 hxyN.1.2) (hP.rt y hxyN.2.1 hxyN.2.2)⟩
        rw [nvs_set]
        exact upd_same
    · obtain ⟨y3, y4, y5, y6, L, rfl, e2, hL, hld⟩ := hp
      have hP : IsP n (mrgs (alone n) l) := isP_mrgs (isP_alone n) hin
      rw [List.take_of_length_le (by rw [hps.1]; exact Nat.le_refl _)] at hld
      generalize hPP : mrgs (alone n) l = P at hP hld q
      -- for case in range(1, many + 1)
      refine ⟨_, rfl, n, 1, rfl, rfl, 1, _, rfl, ⟨by omega, by omega, by omega, by omega⟩, ?_⟩
      rw [show ((n : Int) + 1 - 1).toNat = n by omega]
      refine for_it walk_range (fun j σ H' => ∃ (y6 : Option V) (L : List Nat), σ = [some (.int n), some (.ref a), some (.ref p), y3, y4, y5, y6] ∧ Ex H H' ∧ H' p = some (.lst (nvs L)) ∧ Lead n P L ∧ ∀ c, 1 ≤ c → c ≤ j → L.getD c 0 = itm P c) ⟨y6, L, rfl, e2, hL, hld, fun c h1 h2 => absurd h2 (by omega)⟩ (fun _ _ _ _ _ => trivial) (fun j x σ H' H2 hj hp hx => ?_) (fun σ H' hp => ?_)
      · obtain ⟨rfl, rfl⟩ := hx
        obtain ⟨y6, L, rfl, e3, hL, hld, hd⟩ := hp
        have hc : (1 : Int) + (j : Nat) = ((j + 1 : Nat) : Int) := by omega
        rw [show (fun i : Nat => V.int (1 + (i : Int))) j = V.int ((j + 1 : Nat) : Int) from congrArg V.int hc]
        have h1 : 1 ≤ j + 1 := by omega
        have h2 : j + 1 ≤ n := by omega
        have hf := hld.to _ h1 h2
        have hfe := hld.le _ h2
        have hel : j + 1 < L.length := by rw [hld.len]; omega
        have hv : L.getD (L.getD (j + 1) 0) 0 = itm P (j + 1) := by
          by_cases g : L.getD (j + 1) 0 = j + 1
          · rw [g, g]
            exact (hld.end_ _ h1 h2 g).symm
          · rw [hd _ hf.1 (by omega), hf.2]
        refine ⟨_, rfl, _, rfl, _, rfl, p, _, _, _, rfl, rfl, sq_of hL, lead_get hld h2, p, _, _, _, rfl, rfl, sq_of hL, lead_get hld (by omega), _, rfl, _, rfl, p, _, _, (j + 1), rfl, rfl, hL, ixN_nat (by rw [nvs_len]; exact hel), _, _, rfl, e3.mut np, ?_, hld.half h1 h2, fun c g1 g2 => ?_⟩
        · rw [nvs_set]
          exact upd_same
        · rw [getD_set hel]
          split
          · rename_i g
            rw [g]
            exact hv
          · exact hd c g1 (by omega)
      · obtain ⟨y6, L, rfl, e3, hL, hld, hd⟩ := hp
        have hLP : L.drop 1 = P := by
          refine List.ext_getElem? fun k => ?_
          rw [List.getElem?_drop]
          by_cases hk : k < n
          · have := hd (k + 1) (by omega) (by omega)
            have h := itm_get (p := P) (x := k + 1) (by omega) (by rw [hP.len]; omega)
            rw [Nat.add_sub_cancel] at h
            rw [h, ← this, List.getD_eq_getElem?_getD, Nat.add_comm 1 k, List.getElem?_eq_getElem (by rw [hld.len]; omega)]
            rfl
          · rw [List.getElem?_eq_none (by rw [hld.len]; omega), List.getElem?_eq_none (by rw [hP.len]; omega)]
        have hcut : cutV (nvs L) (some 1) none = nvs P := by
          rw [cut_from]
          unfold nvs
          rw [← List.map_drop, hLP]
        refine ⟨_, rfl, 1, rfl, p, _, rfl, sq_of hL, fun p2 np2 => ?_⟩
        rw [hcut]
        refine ⟨p2, _, rfl, .inl ⟨sq_of upd_same, fun p3 np3 => ?_⟩⟩
        exact q p3 _ ((e3.trans (Ex.new np2)).trans (Ex.new np3)) (fresh_back (e3.trans (Ex.new np2)) np3) upd_same
end
end Eyes

set_option Elab.async false
set_option linter.all false
set_option maxRecDepth 100000
set_option maxHeartbeats 4000000
namespace Eyes
open PySem PySem.Spec PyProof.Rows L2 Evl TL
/-! ### the law's own partings -/
theorem itm_at {p : List Nat} {x : Nat} (h1 : 1 ≤ x) (h2 : x ≤ p.length) : atI (nvs p) ((x : Int) - 1) = some (.int (itm p x : Nat)) := by
  rw [show (x : Int) - 1 = ((x - 1 : Nat) : Int) by omega]
  exact atI_nat (nvs_get (itm_get h1 h2))
def spMerged (K : PySem.W.Frag) : Sp := fun vs H Q _ => ∃ (n : Nat) (a b : Addr) (p : List Nat) (ws : List V) (l : List (Nat × Nat)), vs = [.ref a, .ref b] ∧ n ≤ 4096 ∧ SqT K H a (nvs p) ∧ IsP n p ∧ SqL K H b ws ∧ Prs K H ws l ∧ inN n l ∧ ∀ q H', Ex H H' → H q = none → H' q = some (.tup (nvs (mrgs p l))) → Q (.ref q) H'
theorem int_min {a b : Nat} : (if (b : Int) < a then (b : Int) else a) = ((min a b : Nat) : Int) := by
  split <;> omega
theorem int_max {a b : Nat} : (if (b : Int) > a then (b : Int) else a) = ((max a b : Nat) : Int) := by
  split <;> omega
section
variable {P : Program} {w : World} {K : PySem.W.Frag} {mg : Str → Option Value} {base : Heap} {AA : Adr}
theorem ok_law_merged (T : Txt K mg AA) : Pr P w K mg base "_law_merged" s_law_merged p_law_merged 1 (spMerged K) := by
  refine pr_mk T.f_law_merged sc_law_merged (fun vs H Q E h => ?_) (fun f cdv A outer s H vs Q E hr h => ?_)
  · obtain ⟨n, a, b, p, ws, l, rfl, _⟩ := h
    rfl
  · obtain ⟨n, a, b, p, ws, l, rfl, hn, ha, hP, hb, hps, hin, q⟩ := h
    refine ⟨_, (pss_cons (ps_set (i := 2) sc_law_merged.nd rfl (.inl rfl) (pe_callTy call_list_of (by rfl) T.n_list PyProof.Rows.boot_list (pa_cons (pv 0) pa_nil)))
      (pss_cons (ps_for PassesOwn.never rfl (pi_list (pv 1)) (pg_tup (by rfl) (pgs_cons (pg_name (i := 3) sc_law_merged.nd rfl (.inl rfl)) (pgs_cons (pg_name (i := 4) sc_law_merged.nd rfl (.inl rfl)) pgs_nil)))
      (pss_cons (ps_asg (pe_tup (pa_cons (pe_callB (call_min2 rfl) (by rfl) T.n_min PyProof.Rows.boot_min (pa_cons (pe_ix (ix_listK (K := K) rfl) (pv 2) (pe_op op_sub (pv 3) pe_int) (fun _ _ => rfl)) (pa_cons (pe_ix (ix_listK (K := K) rfl) (pv 2) (pe_op op_sub (pv 4) pe_int) (fun _ _ => rfl)) pa_nil))) (pa_cons (pe_callB (call_max2 rfl) (by rfl) T.n_max PyProof.Rows.boot_max (pa_cons (pe_ix (ix_listK (K := K) rfl) (pv 2) (pe_op op_sub (pv 3) pe_int) (fun _ _ => rfl)) (pa_cons (pe_ix (ix_listK (K := K) rfl) (pv 2) (pe_op op_sub (pv 4) pe_int) (fun _ _ => rfl)) pa_nil))) pa_nil))) (pg_tup (by rfl) (pgs_cons (pg_name (i := 5) sc_law_merged.nd rfl (.inr rfl)) (pgs_cons (pg_name (i := 6) sc_law_merged.nd rfl (.inr rfl)) pgs_nil))))
      (pss_one (ps_if (pt_cmpR op_lt (pv 5) (pv 6) (nomark _))
      (pss_one (ps_setLc (i := 2) (own := [("_law_z", 7)]) (g := gName 7) (tt := tYes) rfl sc_law_merged.nd rfl rfl (sw_true rfl rfl rfl (by decide +kernel)) (pi_list (pv 2)) (blkOk_by (own := [("_law_z", 7)]) (N := n_law_merged) (sc := defScope s_law_merged) (by decide +kernel)) (fun _ _ _ _ _ => (pg_name (i := 7) sc_law_merged.nd rfl (.inl rfl))) (fun _ _ _ _ _ => pts_nil) (fun _ _ _ _ _ => (pe_ifExp (pt_cmpR op_eq (pv 7) (pv 6) (nomark _)) (pv 5) (pv 7)))))
      pss_nil))))
      (pss_one (ps_ret (pe_callTy call_tuple_of (by rfl) T.n_tuple PyProof.Rows.boot_tuple (pa_cons (pv 2) pa_nil)))))), ?_⟩
    -- found = list(rows)
    refine ⟨_, rfl, a, _, rfl, .inr ha, fun r nr => ?_⟩
    -- for x, y in couples
    refine ⟨_, rfl, b, rfl, ⟨ws, ex_l (Ex.new nr) hb⟩, ?_⟩
    refine for_list (xs := ws) (fun i σ H' => ∃ (r : Addr) (y3 y4 y5 y6 y7 : Option V), σ = [some (.ref a), some (.ref b), some (.ref r), y3, y4, y5, y6, y7] ∧ Ex H H' ∧ H' r = some (.lst (nvs (mrgs p (l.take i))))) ⟨r, none, none, none, none, none, rfl, Ex.new nr, upd_same⟩ (fun i σ H' _ hp => ?_) (fun i x σ H' hx hp => ?_) (fun σ H' hp => ?_)
    · obtain ⟨_, _, _, _, _, _, rfl, e, _⟩ := hp
      exact ex_l e hb
    · obtain ⟨r, y3, y4, y5, y6, y7, rfl, e, hr1⟩ := hp
      obtain ⟨qa, ⟨x, y⟩, rfl, hxy, hq⟩ := hps.2 i x hx
      have hxyN := hin _ (List.mem_of_getElem? hxy)
      have hPi : IsP n (mrgs p (l.take i)) := isP_mrgs hP fun z hz => hin z (List.mem_of_mem_take hz)
      rw [show l.take (i + 1) = l.take i ++ [(x, y)] by rw [List.take_add_one, hxy]; rfl]
      rw [mrgs_snoc]
      generalize hPP : mrgs p (l.take i) = P at hPi hr1
      have ax := hPi.lo x hxyN.1.1 hxyN.1.2
      have ay := hPi.lo y hxyN.2.1 hxyN.2.2
      have gx : atI (nvs P) ((x : Int) - 1) = some (.int (itm P x : Nat)) := itm_at hxyN.1.1 (by rw [hPi.len]; exact hxyN.1.2)
      have gy : atI (nvs P) ((y : Int) - 1) = some (.int (itm P y : Nat)) := itm_at hxyN.2.1 (by rw [hPi.len]; exact hxyN.2.2)
      refine ⟨qa, _, rfl, ex_t e hq, rfl, _, _, rfl, _, _, rfl, rfl, ?_⟩
      -- low, high = (min, max)
      refine ⟨_, rfl, _, rfl, x, 1, rfl, rfl, r, _, _, _, rfl, rfl, sq_of hr1, gx, _, rfl, _, rfl, y, 1, rfl, rfl, r, _, _, _, rfl, rfl, sq_of hr1, gy, _, _, rfl, ?_⟩
      rw [int_min]
      refine ⟨_, rfl, _, rfl, x, 1, rfl, rfl, r, _, _, _, rfl, rfl, sq_of hr1, gx, _, rfl, _, rfl, y, 1, rfl, rfl, r, _, _, _, rfl, rfl, sq_of hr1, gy, _, _, rfl, ?_⟩
      rw [int_max]
      refine ⟨by show 2 ≤ sizeLine; decide, fun t nt => ⟨t, _, rfl, st_of upd_same, rfl, _, _, rfl, _, _, rfl, rfl, ?_⟩⟩
      have e2 : Ex H (upd H' t (.tup [V.int ((min (itm P x) (itm P y) : Nat) : Int), V.int ((max (itm P x) (itm P y) : Nat) : Int)])) := e.trans (Ex.new nt)
      have hr2 : (upd H' t (.tup [V.int ((min (itm P x) (itm P y) : Nat) : Int), V.int ((max (itm P x) (itm P y) : Nat) : Int)])) r = some (.lst (nvs P)) := (Ex.new nt) _ _ hr1
      generalize upd H' t _ = Hc at e2 hr2
      -- if low < high
      refine ⟨_, rfl, _, rfl, _, _, rfl, rfl, _, rfl, ite2 (fun hlt => ?_) (fun hlt => ?_)⟩
      · refine ⟨_, rfl, r, rfl, ⟨_, sq_of hr2⟩, fun D hD => lc_it (walk_list (xs := nvs P)) (fun j H' => Hc D = none ∧ Ex Hc H' ∧ H' D = some (.lst (nvs ((P.take j).map fun z => if z = max (itm P x) (itm P y) then min (itm P x) (itm P y) else z)))) ⟨hD, Ex.new hD, upd_same⟩ (fun _ _ _ hp => ex_l hp.2.1 (sq_of hr2)) (fun j v H3 H4 hj hp hy => ?_) (fun H' hp => ?_)⟩
        · obtain ⟨rfl, hv⟩ := hy
          obtain ⟨h1, h2, h3⟩ := hp
          unfold nvs at hv
          rw [List.getElem?_map] at hv
          obtain ⟨z, hz, rfl⟩ := Option.map_eq_some_iff.mp hv
          have fin : ∀ u : Nat, u = (if z = max (itm P x) (itm P y) then min (itm P x) (itm P y) else z) → ∃ acc, H4 D = some (HO.lst acc) ∧ acc.length < sizeLine ∧ Hc D = none ∧ Ex Hc (upd H4 D (.lst (acc ++ [V.int (u : Int)]))) ∧ (upd H4 D (.lst (acc ++ [V.int (u : Int)]))) D = some (.lst (nvs ((P.take (j + 1)).map fun z => if z = max (itm P x) (itm P y) then min (itm P x) (itm P y) else z))) := fun u hu => by
            refine ⟨_, h3, ?_, h1, h2.mut h1, ?_⟩
            · rw [nvs_len, List.length_map, List.length_take, hPi.len]
              have : 4097 < sizeLine := by decide
              omega
            · rw [upd_same, List.take_add_one, hz, List.map_append, hu]
              unfold nvs
              rw [List.map_append]
              rfl
          refine ⟨rfl, _, rfl, _, rfl, rfl, _, rfl, ite2 (fun he => ?_) (fun he => ?_)⟩
          · refine ⟨_, rfl, fin _ ?_⟩
            have h5 : V.int (z : Int) = V.int ((max (itm P x) (itm P y) : Nat) : Int) := of_decide_eq_true he
            injection h5 with h5
            rw [if_pos (Int.ofNat.inj h5)]
          · refine ⟨_, rfl, fin _ ?_⟩
            rw [if_neg fun g => he (by rw [g]; exact decide_eq_true rfl)]
        · obtain ⟨h1, h2, h3⟩ := hp
          rw [List.take_of_length_le (by rw [nvs_len]; exact Nat.le_refl _)] at h3
          exact ⟨D, _, _, _, _, _, rfl, e2.trans h2, h3⟩
      · refine ⟨r, _, _, _, _, _, rfl, e2, ?_⟩
        rw [hr2]
        have hle : ¬ (min (itm P x) (itm P y) < max (itm P x) (itm P y)) := fun g => hlt (decide_eq_true (by omega))
        have hid : mrg1 P x y = P := by
          unfold mrg1
          refine (List.map_congr_left fun z _ => ?_).trans (List.map_id P)
          by_cases g : z = max (itm P x) (itm P y)
          · rw [if_pos g]
            show min (itm P x) (itm P y) = z
            omega
          · rw [if_neg g]
            rfl
        show _ = some (HO.lst (nvs (mrg1 P x y)))
        rw [hid]
    · obtain ⟨r, y3, y4, y5, y6, y7, rfl, e, hr1⟩ := hp
      rw [List.take_of_length_le (by rw [hps.1]; exact Nat.le_refl _)] at hr1
      refine ⟨_, rfl, r, _, rfl, .inl ⟨sq_of hr1, fun t nt => ?_⟩⟩
      exact q t _ (e.trans (Ex.new nt)) (fresh_back e nt) upd_same
end
end Eyes

set_option Elab.async false
set_option linter.all false
set_option maxRecDepth 100000
set_option maxHeartbeats 4000000
namespace Eyes
open PySem PySem.Spec PyProof.Rows L2 Evl TL
theorem dp_nats {K : PySem.W.Frag} {H : Hp} : ∀ l : List Nat, DpAll K H (l.map fun c => V.int ((c : Nat) : Int)) (l.map fun c => PyData.int ((c : Nat) : Int))
  | [] => .nil
  | _ :: l => .cons (.int _) (dp_nats l)
theorem shaped_nats (l : List Nat) : SeqAt.shaped (.list (l.map fun c => PyData.int ((c : Nat) : Int))) = true := by
  have h1 : PyData.canLay0 (.list (l.map fun c => PyData.int ((c : Nat) : Int))) = true := by
    show PyData.canLayAll0 _ = true
    induction l with
    | nil => rfl
    | cons c l ih =>
      show (PyData.canLay0 (.int _) && PyData.canLayAll0 (l.map fun c => PyData.int ((c : Nat) : Int))) = true
      rw [ih, Bool.and_true]
      rfl
  have h2 : PyData.depth (.list (l.map fun c => PyData.int ((c : Nat) : Int))) ≤ 64 := by
    have : PyData.depthAll (l.map fun c => PyData.int ((c : Nat) : Int)) = 0 := by
      clear h1
      induction l with
      | nil => rfl
      | cons c l ih =>
        show max (PyData.depth (.int _)) _ = 0
        rw [ih]
        rfl
    show PyData.depthAll _ + 1 ≤ 64
    rw [this]
    decide
  unfold SeqAt.shaped
  rw [h1, decide_eq_true h2]
  rfl
theorem eqv_nats (l : List Nat) : PyData.eqv (.list (l.map fun c => PyData.int ((c : Nat) : Int))) (.list []) = decide (l = []) := by
  cases l with
  | nil => rfl
  | cons c r =>
    rw [decide_eq_false (by simp)]
    rfl
def Prh (H : Hp) (vs : List V) (l : List (Nat × Nat)) : Prop := vs.length = l.length ∧ ∀ (i : Nat) v, vs[i]? = some v → ∃ t xy, v = .ref t ∧ l[i]? = some xy ∧ H t = some (.tup [.int xy.1, .int xy.2])
theorem Prh.to {K : PySem.W.Frag} {H : Hp} {vs : List V} {l : List (Nat × Nat)} (h : Prh H vs l) : Prs K H vs l :=
  ⟨h.1, fun i v hv => by
    obtain ⟨t, xy, a, b, c⟩ := h.2 i v hv
    exact ⟨t, xy, a, b, st_of c⟩⟩
theorem Prh.ex {H H' : Hp} {vs : List V} {l : List (Nat × Nat)} (h : Prh H vs l) (e : Ex H H') : Prh H' vs l :=
  ⟨h.1, fun i v hv => by
    obtain ⟨t, xy, a, b, c⟩ := h.2 i v hv
    exact ⟨t, xy, a, b, e _ _ c⟩⟩
theorem Prh.put {H : Hp} {D : Addr} {xs : List V} {o : HO} {vs : List V} {l : List (Nat × Nat)} (h : Prh H vs l) (hD : H D = some (.lst xs)) : Prh (upd H D o) vs l :=
  ⟨h.1, fun i v hv => by
    obtain ⟨t, xy, a, b, c⟩ := h.2 i v hv
    refine ⟨t, xy, a, b, ?_⟩
    rw [upd_ne fun e => by rw [e, hD] at c; cases c]
    exact c⟩
theorem Prh.snoc {H : Hp} {vs : List V} {l : List (Nat × Nat)} (h : Prh H vs l) {t : Addr} {xy : Nat × Nat} (ht : H t = some (.tup [.int xy.1, .int xy.2])) : Prh H (vs ++ [.ref t]) (l ++ [xy]) :=
  ⟨by rw [List.length_append, List.length_append, h.1]; rfl, fun i v hv => by
    by_cases g : i < vs.length
    · rw [List.getElem?_append_left g] at hv
      obtain ⟨t, xy, a, b, c⟩ := h.2 i v hv
      refine ⟨t, xy, a, ?_, c⟩
      rw [List.getElem?_append_left (by rw [← h.1]; exact g)]
      exact b
    · rw [List.getElem?_append_right (by omega)] at hv
      have hi : i - vs.length = 0 := by
        cases hj : i - vs.length with
        | zero => rfl
        | succ j =>
          rw [hj] at hv
          cases hv
      rw [hi] at hv
      refine ⟨t, xy, (Option.some.inj hv).symm, ?_, ht⟩
      rw [List.getElem?_append_right (by rw [← h.1]; omega), ← h.1, hi]
      rfl⟩
def inn (p q : List Nat) : Bool := (List.range p.length).all fun k => decide (itm q (k + 1) = itm q (itm p (k + 1)))
def numd (n : Nat) (q : List Nat) : List (Nat × Nat) := (List.range n).map fun k => (k + 1, itm q (k + 1))
def spWithin (K : PySem.W.Frag) : Sp := fun vs H Q _ => ∃ (n : Nat) (a b : Addr) (p q : List Nat), vs = [.ref a, .ref b] ∧ n ≤ 4096 ∧ SqT K H a (nvs p) ∧ IsP n p ∧ SqT K H b (nvs q) ∧ IsP n q ∧ ∀ H', Ex H H' → Q (.bl (inn p q)) H'
def spJoinedL (K : PySem.W.Frag) : Sp := fun vs H Q _ => ∃ (n : Nat) (a b : Addr) (p q : List Nat), vs = [.ref a, .ref b] ∧ n ≤ 4096 ∧ SqT K H a (nvs p) ∧ IsP n p ∧ SqT K H b (nvs q) ∧ IsP n q ∧ ∀ r H', Ex H H' → H r = none → H' r = some (.tup (nvs (mrgs p (numd n q)))) → Q (.ref r) H'
theorem numd_in {n : Nat} {q : List Nat} (h : IsP n q) : inN n (numd n q) := fun xy hxy => by
  unfold numd at hxy
  obtain ⟨k, hk, rfl⟩ := List.mem_map.mp hxy
  have := List.mem_range.mp hk
  have g := h.lo (k + 1) (by omega) (by omega)
  exact ⟨⟨by omega, by omega⟩, g.1, by show itm q (k + 1) ≤ n; omega⟩
theorem dec_nat {x y : Nat} : decide (V.int (x : Int) = V.int (y : Int)) = decide (x = y) := by
  rw [Bool.eq_iff_iff, decide_eq_true_iff, decide_eq_true_iff]
  refine ⟨fun h => ?_, fun h => by rw [h]⟩
  injection h with h
  exact Int.ofNat.inj h
theorem all_take {n : Nat} {f : Nat → Bool} : ((List.range n).map f).all id = (List.range n).all f := by
  rw [List.all_map]
  rfl
section
variable {P : Program} {w : World} {K : PySem.W.Frag} {mg : Str → Option Value} {base : Heap} {AA : Adr}
theorem ok_within (T : Txt K mg AA) : Pr P w K mg base "within" s_within p_within 1 (spWithin K) := by
  refine pr_mk T.f_within sc_within (fun vs H Q E h => ?_) (fun f cdv A outer s H vs Q E hr h => ?_)
  · obtain ⟨n, a, b, p, q, rfl, _⟩ := h
    rfl
  · obtain ⟨n, a, b, p, q, rfl, hn, ha, hP, hb, hQ, qq⟩ := h
    refine ⟨_, (pss_one (ps_ret (pe_callB (cr_all rfl) (by rfl) T.n_all PyProof.Rows.boot_all (pa_cons (pe_lc (own := [("at", 2), ("item", 3)]) (g := gTup K 2 (gCons (gName 2) (gCons (gName 3) gNil))) (tt := tYes) rfl sc_within.nd (pi_enumT (by rfl) T.n_enumerate (pa_cons (pv 0) pa_nil)) (blkOk_by (own := [("at", 2), ("item", 3)]) (N := n_within) (sc := defScope s_within) (by decide +kernel)) (fun _ _ _ _ _ => (pg_tup (by rfl) (pgs_cons (pg_name (i := 2) sc_within.nd rfl (.inl rfl)) (pgs_cons (pg_name (i := 3) sc_within.nd rfl (.inl rfl)) pgs_nil)))) (fun _ _ _ _ _ => pts_nil) (fun _ _ _ _ _ => (pe_cmpR op_eq (pe_ix (ix_tupK (K := K) rfl) (pv 1) (pv 2) (fun _ _ => rfl)) (pe_ix (ix_tupK (K := K) rfl) (pv 1) (pe_op op_sub (pv 3) pe_int) (fun _ _ => rfl)) (nomark _)))) pa_nil)))), ?_⟩
    refine ⟨_, rfl, a, _, rfl, ha, fun D hD => lc_it (walk_enumT (xs := nvs p)) (fun i H' => H D = none ∧ Ex H H' ∧ H' D = some (.lst (((List.range i).map fun k => decide (itm q (k + 1) = itm q (itm p (k + 1)))).map V.bl))) ⟨hD, Ex.new hD, upd_same⟩ (fun _ _ _ hp => ex_t hp.2.1 ha) (fun i v H3 H4 hi hp hy => ?_) (fun H' hp => ?_)⟩
    · obtain ⟨h1, h2, h3⟩ := hp
      obtain ⟨T1, u1, u2, rfl, hT, rfl, g1, g2⟩ := hy
      rw [nvs_len, hP.len] at hi
      have hi1 : 1 ≤ i + 1 := by omega
      have lp := hP.lo (i + 1) hi1 hi
      obtain rfl : u2 = .int (itm p (i + 1) : Nat) := Option.some.inj (g2.symm.trans (nvs_get (itm_get (x := i + 1) hi1 (by rw [hP.len]; omega))))
      obtain rfl : V.int (0 + (i : Int)) = u1 := Option.some.inj g1
      have e4 : Ex H3 (upd H3 T1 (.tup [.int (0 + (i : Int)), .int (itm p (i + 1) : Nat)])) := Ex.new hT
      have hb4 := ex_t (h2.trans e4) hb
      refine ⟨T1, _, rfl, st_of upd_same, rfl, _, _, rfl, _, _, rfl, rfl, rfl, ?_⟩
      refine ⟨_, rfl, _, rfl, b, _, _, .int (itm q (i + 1) : Nat), rfl, rfl, hb4, ?_, _, rfl, _, rfl, _, 1, rfl, rfl, b, _, _, _, rfl, rfl, hb4, itm_at lp.1 (by rw [hQ.len]; omega), rfl, _, e4 _ _ h3, ?_, h1, (h2.trans e4).mut h1, ?_⟩
      · rw [Int.zero_add]
        exact atI_nat (nvs_get (itm_get (x := i + 1) hi1 (by rw [hQ.len]; omega)))
      · rw [List.length_map, List.length_map, List.length_range]
        have : 4097 < sizeLine := by decide
        omega
      · rw [upd_same, List.range_succ, List.map_append, List.map_append, dec_nat]
        rfl
    · obtain ⟨h1, h2, h3⟩ := hp
      rw [nvs_len] at h3
      refine ⟨D, _, rfl, sq_of h3, ?_⟩
      rw [all_take]
      exact qq _ h2
theorem ok_law_inner (T : Txt K mg AA) : Pr P w K mg base "_law_inner" s_law_inner p_law_inner 1 (spWithin K) := by
  refine pr_mk T.f_law_inner sc_law_inner (fun vs H Q E h => ?_) (fun f cdv A outer s H vs Q E hr h => ?_)
  · obtain ⟨n, a, b, p, q, rfl, _⟩ := h
    rfl
  · obtain ⟨n, a, b, p, q, rfl, hn, ha, hP, hb, hQ, qq⟩ := h
    refine ⟨_, (pss_one (ps_ret (pe_cmpR (op_eqD hr.units) (pe_lc (own := [("_law_k", 2)]) (g := gName 2) rfl sc_law_inner.nd (pi_range1 (by rfl) T.n_range (pa_cons (pe_callB (call_len_seqK (K := K) rfl) (by rfl) T.n_len PySem.boot_len (pa_cons (pv 0) pa_nil)) pa_nil)) (blkOk_by (own := [("_law_k", 2)]) (N := n_law_inner) (sc := defScope s_law_inner) (by decide +kernel)) (fun _ _ _ _ _ => (pg_name (i := 2) sc_law_inner.nd rfl (.inl rfl))) (fun _ _ _ _ _ => (pts_one (pt_cmpR op_ne (pe_ix (ix_tupK (K := K) rfl) (pv 1) (pv 2) (fun _ _ => rfl)) (pe_ix (ix_tupK (K := K) rfl) (pv 1) (pe_op op_sub (pe_ix (ix_tupK (K := K) rfl) (pv 0) (pv 2) (fun _ _ => rfl)) pe_int) (fun _ _ => rfl)) (nomark _)))) (fun _ _ _ _ _ => (pv 2))) (pe_lst pa_nil) (nomark _)))), ?_⟩
    refine ⟨_, rfl, a, _, rfl, .inr ha, _, rfl, ?_⟩
    rw [nvs_len, hP.len]
    refine ⟨by omega, by omega, ?_⟩
    rw [show ((n : Nat) : Int).toNat = n by omega]
    refine fun D hD => lc_it walk_range (fun i H' => H D = none ∧ Ex H H' ∧ H' D = some (.lst (nvs ((List.range i).filter fun k => !decide (itm q (k + 1) = itm q (itm p (k + 1))))))) ⟨hD, Ex.new hD, upd_same⟩ (fun _ _ _ _ => trivial) (fun i v H3 H4 hi hp hy => ?_) (fun H' hp => ?_)
    · obtain ⟨h1, h2, h3⟩ := hp
      obtain ⟨rfl, rfl⟩ := hy
      have hi1 : 1 ≤ i + 1 := by omega
      have lp := hP.lo (i + 1) hi1 hi
      have ha4 := ex_t h2 ha
      have hb4 := ex_t h2 hb
      have z0 : (0 : Int) + (i : Int) = (i : Int) := Int.zero_add _
      refine ⟨rfl, _, rfl, _, rfl, b, _, _, .int (itm q (i + 1) : Nat), rfl, rfl, hb4, ?_, _, rfl, _, rfl, _, rfl, a, _, _, .int (itm p (i + 1) : Nat), rfl, rfl, ha4, ?_, _, 1, rfl, rfl, b, _, _, _, rfl, rfl, hb4, itm_at lp.1 (by rw [hQ.len]; omega), rfl, _, rfl, ?_⟩
      · show atI (nvs q) (0 + (i : Int)) = _
        rw [z0]
        exact atI_nat (nvs_get (itm_get (x := i + 1) hi1 (by rw [hQ.len]; omega)))
      · show atI (nvs p) (0 + (i : Int)) = _
        rw [z0]
        exact atI_nat (nvs_get (itm_get (x := i + 1) hi1 (by rw [hP.len]; omega)))
      rw [dec_nat, List.range_succ, List.filter_append]
      by_cases g : itm q (i + 1) = itm q (itm p (i + 1))
      · rw [decide_eq_true g]
        refine iteF ⟨h1, h2, ?_⟩
        rw [h3]
        simp [g]
      · rw [decide_eq_false g]
        refine iteT ⟨_, rfl, _, h3, ?_, h1, h2.mut h1, ?_⟩
        · rw [nvs_len]
          have h5 : ((List.range i).filter fun k => !decide (itm q (k + 1) = itm q (itm p (k + 1)))).length ≤ i := Nat.le_trans (List.length_filter_le ..) (by rw [List.length_range]; exact Nat.le_refl _)
          have : 4097 < sizeLine := by decide
          omega
        · rw [upd_same]
          simp only [g, List.filter_cons, decide_false, Bool.not_false, if_true, List.filter_nil]
          unfold nvs
          rw [List.map_append]
          show some (HO.lst (_ ++ [V.int (0 + (i : Int))])) = _
          rw [z0]
          rfl
    · obtain ⟨h1, h2, h3⟩ := hp
      refine ⟨by show 0 ≤ sizeLine; decide, fun pe npe => ⟨_, .list [], .lst (sq_of (Ex.new npe _ _ h3)) (dp_nats _), .lst (sq_of upd_same) .nil, shaped_nats _, by decide +kernel, ?_⟩⟩
      rw [eqv_nats]
      have e : decide (((List.range n).filter fun k => !decide (itm q (k + 1) = itm q (itm p (k + 1)))) = []) = inn p q := by
        unfold inn
        rw [hP.len, Bool.eq_iff_iff, decide_eq_true_iff, List.filter_eq_nil_iff, List.all_eq_true]
        refine forall_congr' fun k => forall_congr' fun _ => ?_
        simp
      rw [e]
      exact qq _ (h2.trans (Ex.new npe))
theorem ok_law_joined (T : Txt K mg AA) : Pr P w K mg base "_law_joined" s_law_joined p_law_joined 2 (spJoinedL K) := by
  refine pr_mk T.f_law_joined sc_law_joined (fun vs H Q E h => ?_) (fun f cdv A outer s H vs Q E hr h => ?_)
  · obtain ⟨n, a, b, p, q, rfl, _⟩ := h
    rfl
  · obtain ⟨n, a, b, p, q, rfl, hn, ha, hP, hb, hQ, qq⟩ := h
    refine ⟨_, (pss_one (ps_ret (pcall (ok_law_merged T) hr (pa_cons (pv 0) (pa_cons (pe_lc (own := [("_law_k", 2)]) (g := gName 2) (tt := tYes) rfl sc_law_joined.nd (pi_range1 (by rfl) T.n_range (pa_cons (pe_callB (call_len_seqK (K := K) rfl) (by rfl) T.n_len PySem.boot_len (pa_cons (pv 1) pa_nil)) pa_nil)) (blkOk_by (own := [("_law_k", 2)]) (N := n_law_joined) (sc := defScope s_law_joined) (by decide +kernel)) (fun _ _ _ _ _ => (pg_name (i := 2) sc_law_joined.nd rfl (.inl rfl))) (fun _ _ _ _ _ => pts_nil) (fun _ _ _ _ _ => (pe_tup (pa_cons (pe_op op_add (pv 2) pe_int) (pa_cons (pe_ix (ix_tupK (K := K) rfl) (pv 1) (pv 2) (fun _ _ => rfl)) pa_nil))))) pa_nil))))), ?_⟩
    refine ⟨_, rfl, _, rfl, b, _, rfl, .inr hb, ?_⟩
    rw [nvs_len, hQ.len]
    refine ⟨_, rfl, by omega, by omega, ?_⟩
    rw [show ((n : Nat) : Int).toNat = n by omega]
    refine fun D hD => lc_it walk_range (fun i H' => H D = none ∧ Ex H H' ∧ ∃ ws, H' D = some (.lst ws) ∧ Prh H' ws (numd i q)) ⟨hD, Ex.new hD, [], upd_same, rfl, fun i v hv => by cases hv⟩ (fun _ _ _ _ => trivial) (fun i v H3 H4 hi hp hy => ?_) (fun H' hp => ?_)
    · obtain ⟨h1, h2, ws, h3, h4⟩ := hp
      obtain ⟨rfl, rfl⟩ := hy
      have hb4 := ex_t h2 hb
      have z0 : (0 : Int) + (i : Int) = (i : Int) := Int.zero_add _
      refine ⟨rfl, _, rfl, _, 1, rfl, rfl, _, rfl, _, rfl, b, _, _, .int (itm q (i + 1) : Nat), rfl, rfl, hb4, ?_, by show 2 ≤ sizeLine; decide, fun t nt => ?_⟩
      · show atI (nvs q) (0 + (i : Int)) = _
        rw [z0]
        exact atI_nat (nvs_get (itm_get (x := i + 1) (by omega) (by rw [hQ.len]; omega)))
      have e4 : Ex H4 (upd H4 t (.tup [.int (0 + (i : Int) + 1), .int (itm q (i + 1) : Nat)])) := Ex.new nt
      refine ⟨_, e4 _ _ h3, ?_, h1, (h2.trans e4).mut h1, _, upd_same, ?_⟩
      · rw [h4.1]
        unfold numd
        rw [List.length_map, List.length_range]
        have : 4097 < sizeLine := by decide
        omega
      · unfold numd
        rw [List.range_succ, List.map_append]
        refine Prh.put (xs := ws) ?_ (e4 _ _ h3)
        refine (h4.ex e4).snoc ?_
        rw [upd_same]
        have : (0 + (i : Int) + 1) = ((i + 1 : Nat) : Int) := by omega
        rw [this]
    · obtain ⟨h1, h2, ws, h3, h4⟩ := hp
      exact ⟨n, a, D, p, ws, numd n q, rfl, hn, ex_t h2 ha, hP, sq_of h3, h4.to, numd_in hQ, fun r H5 e5 n5 h5 => qq r H5 (h2.trans e5) (fresh_back h2 n5) h5⟩
end
end Eyes

set_option Elab.async false
set_option linter.all false
set_option maxRecDepth 100000
set_option maxHeartbeats 4000000
/-! enumerate(list), enumerate(.., start=k) in a for. -/
namespace Eyes
open PySem PySem.Spec PyProof.Rows L2
def IteL (K : PySem.W.Frag) (a : Addr) (k : Int) : It :=
  ⟨fun i H => ∃ (xs : List V) (x : V), SqL K H a xs ∧ xs[i]? = some x, fun i H v H' => ∃ T x, v = .ref T ∧ H T = none ∧ H' = upd H T (.tup [.int (k + (i : Nat)), x]) ∧ ∀ xs, SqL K H a xs → xs[i]? = some x, fun i H => ∃ xs : List V, SqL K H a xs ∧ xs.length ≤ i⟩
theorem turn_enumL {P : Program} {w : World} {K : PySem.W.Frag} {elts : List Expr} {kk : Nat} {tpos : Pos} (a e it : Addr) (k : Int) (nai : a ≠ it) :
    Turn P w K (.Tuple elts kk tpos) (IteL K a k) [e, it] e (fun i h => (∃ old, IsEnum h e it (k + (i : Nat)) old) ∧ h.IsListIter it a i ∧ e ≠ it ∧ a ≠ e) where
  mem := by simp
  obj := fun i h st b hb => by
    obtain ⟨⟨old, he⟩, ⟨o, ho, hc, hd⟩, _⟩ := st
    rcases (show b = e ∨ b = it by simpa using hb) with z | z
    · rw [z]
      exact ⟨_, he, fun v q => nomatch q⟩
    · rw [z]
      exact ⟨o, ho, fun v q => by rw [hd] at q; cases q⟩
  keep := fun i h h' st kp => by
    obtain ⟨⟨old, he⟩, hi, hne, hna⟩ := st
    exact ⟨⟨old, kp e (by simp) _ he⟩, hi.at fun o q => kp it (by simp) o q, hne, hna⟩
  item := by
    intro X hP hw hK hc i pins s σ H E I hf st hg
    subst hP hw hK
    obtain ⟨⟨old, he⟩, hit, hne, hna⟩ := st
    obtain ⟨xs, x, hq, hx⟩ := hg
    obtain ⟨its, rv, p, hz⟩ := I.list hq
    obtain ⟨u, hu, ru⟩ := rv.get hx
    have el : e < s.heap.objs.size := Heap.lt_size he
    have il : it < s.heap.objs.size := by
      obtain ⟨_, q, _⟩ := hit
      exact Heap.lt_size q
    have isT : s.heap.IsList a its.toArray := p.isList
    have lti : i < its.length := by
      rcases Nat.lt_or_ge i its.length with z | z
      · exact z
      · rw [List.getElem?_eq_none z] at hu
        cases hu
    have D := Draws.list (prog := X.prog) (w := X.w) (A := X.A.in1) (by have := I.ok.hd hc; simpa using this) it a nai its.toArray
    refine wpAny_pyNext_enum_itemC D he ⟨hit, isT⟩ (by simpa using lti) hne (by simp [hne, Ne.symm hna]) fun y h' tk hy ho hst hT hsz hk => ?_
    have ey : y = u := by
      have z : its.toArray[i]? = some y := hy
      rw [List.getElem?_toArray, hu] at z
      exact (Option.some.inj z).symm
    subst ey
    refine ⟨_, rfl, wpAny_letOwnedTupleGo_enum (s := { s with heap := h', toks := tk + 1 }) ho fun h2 he2 sb => ?_⟩
    have T2 : h2.get? s.heap.objs.size = some { cls := .type "tuple", data := .seq #[.int (k + (i : Nat)) tk, y] } := (sb.2 _ (Nat.ne_of_gt el)).trans hT
    have new : ObjOk X.prog X.w (upd H s.heap.objs.size (.tup [.int (k + (i : Nat)), x])) h2 s.heap.objs.size (.tup [.int (k + (i : Nat)), x]) :=
      ⟨by show 2 ≤ sizeLine; decide, [.int (k + (i : Nat)) tk, y], .cons ⟨_, rfl⟩ (.cons ru .nil), ⟨_, T2, rfl, _, rfl⟩⟩
    have I1 : Inv X pins σ (upd H s.heap.objs.size (.tup [.int (k + (i : Nat)), x])) { s with heap := h2, toks := tk + 1 } :=
      I.turnedNew (ch := [e, it]) (fun b ob hb q => (sb.2 b (fun z => hb (by simp [z]))).trans (hk b ob (fun z => hb (by simp [z])) (fun z => hb (by simp [z])) q)) hf (Nat.le_refl _) new
    refine ⟨.ref s.heap.objs.size, _, I1, rfl, ⟨_, x, rfl, I.hok.fresh (Nat.le_refl _), rfl, fun ys hy => by rw [I.list_inj hy hq]; exact hx⟩, ⟨⟨y, ?_⟩, hst.1.at fun o q => (sb.2 it (Ne.symm hne)).trans q, hne, hna⟩, fun b hb => ?_⟩
    · rw [show (k + ((i + 1 : Nat) : Int)) = k + (i : Nat) + 1 by omega]
      exact he2
    · have lt : b < s.heap.objs.size := by
        rcases (show b = e ∨ b = it by simpa using hb) with z | z
        · rw [z]; exact el
        · rw [z]; exact il
      rw [upd_ne (Nat.ne_of_lt lt)]
      exact (hf b hb).1
  done := by
    intro X hP hw hK hc i pins s σ H E I hf st hg
    subst hP hw hK
    obtain ⟨⟨old, he⟩, hit, hne, hna⟩ := st
    obtain ⟨xs, hq, hx⟩ := hg
    obtain ⟨its, rv, p, hz⟩ := I.list hq
    have isT : s.heap.IsList a its.toArray := p.isList
    obtain ⟨f0, f1, f2, f3, f4, f5⟩ := hf it (by simp)
    have hl := rv.length
    have hh : X.A.in1.in1.handled = none := by have := I.ok.hd hc; simpa using this
    -- what is behind the end: a draw of a tuple as long as the count
    have stop : ∀ (Q : Value → Shared → Prop) (E : Value → Shared → Prop), (∀ h' e, Heap.ExtBut it s.heap h' → (∃ o, h'.get? e = some o ∧ o.cls = .type "StopIteration") → E (.ref e) { s with heap := h' }) → wpAny (model X.prog X.w) X.A.in1 (Builtin.SmallTypes.nextOf (.ref it)) Q E s :=
      fun Q E hE => wpAny_nextOf_list_end (by have := I.ok.hd hc; simpa using this) hit isT (by simp; omega) hE
    have hT : s.TypeIs (.ref e) "enumerate" := ⟨_, he, rfl⟩
    unfold pyNext
    refine wpAny_bind (wpAny_attempt (wpAny_callSpecial?_slot (name := Str.ofString "__next__") hT PySem.F.slot_enumerate_next (wpAny_call_entry PySem.F.slot_enumerate_next hT PySem.F.entry_enumerate_next ?_ (PySem.F.args_enumerate_next_1 _))))
    show wpAny _ _ (field (.ref e) 2 >>= _) _ _ _
    refine wpAny_bind (wpAny_field he rfl (x := .ref it) rfl (wpAny_bind (stop _ _ fun h' x eb hx' => ?_)))
    obtain ⟨o, ho, hc'⟩ := hx'
    refine wpAny_bind (wpAny_isInstance (T := "StopIteration") (b := true) ⟨o, ho, hc'⟩ isSubtype_stop (wpAny_pure ?_))
    exact ⟨rfl, I.turned (t' := s.toks) (fun b o hb q => eb b o hb q) f0 f1 f3 f4 f5⟩
  self := fun A i s Q E st h => by
    obtain ⟨⟨_, he⟩, _⟩ := st
    exact wpAny_pyIter_enum he h
theorem walk_enumL {K : PySem.W.Frag} {a : Addr} {k : Int} {xs : List V} : Walk (IteL K a k) xs.length (fun H => SqL K H a xs) (YPair (fun i => some (.int (k + (i : Nat)))) (fun i => xs[i]?)) := by
  refine ⟨fun i H hi q => ⟨xs, xs[i], q, by simp [hi]⟩, fun H q => ⟨xs, q, Nat.le_refl _⟩, fun i H v H' hi q y => ?_⟩
  obtain ⟨T, x, h1, h2, h3, h4⟩ := y
  exact ⟨T, _, x, h1, h2, h3, rfl, h4 xs q⟩

theorem callWith_tyK {M : Model} {A : Around} {E : Value → Shared → Prop} {s : Shared} {env : Env} {pos : Pos} {T : String} {e : Expr} {rest : List Expr} {kws : List Keyword} {Q : Value → Shared → Prop} (hall : (backToKw pos (keywordEach kws env)).all (·.1.isSome) = true)
    (h : wpAny M A (spliced (backTo pos (starEach (e :: rest) env))) (fun vs s₁ => wpAny M A (evalAll ((backToKw pos (keywordEach kws env)).map (·.2)))
      (fun ks s₂ => wpAny M A (call (.type T) vs (((backToKw pos (keywordEach kws env)).filterMap (·.1)).zip ks)) Q E s₂) E s₁) E s)
    (hplain : ((backTo pos (starEach (e :: rest) env)).any (·.1) || (backToKw pos (keywordEach kws env)).any (·.1.isNone)) = false := by rfl) (he : starEach (e :: rest) env = (false, eval e env) :: starEach rest env := by rfl) :
    wpAny M A (callWith pos (.type T) [] (backTo pos (starEach (e :: rest) env)) (backToKw pos (keywordEach kws env))) Q E s :=
  PySem.W.callWith_of (P := fun _ => True) hplain (fun h _ => ⟨.machine, .inr (.inl rfl), fun A Q E s _ q => wpAny_pure q⟩)
    (evalArgs_kw2 hall (thn h fun vs s1 h1 => thn h1 fun ks s2 h2 => ⟨trivial, h2⟩) he)
def iEnumS (J : Addr → Int → It) (S : Hp → Addr → List V → Prop) (ta tk : TA) : TI := fun σ H R => ta σ H fun vs H1 => tk σ H1 fun ws H2 => ∃ a k xs, vs = [.ref a] ∧ ws = [.int k] ∧ -(2 ^ 63) ≤ k ∧ k < 2 ^ 63 ∧ S H2 a xs ∧ R (J a k) H2
theorem pi_enumTS {X : Cx} {e k : Expr} {ta tk : TA} {p pos tpos kpos : Pos} {elts : List Expr} {kk : Nat} (hg : Gl X "enumerate") (hm : X.mg "enumerate" = none) (ha : PA X [e] ta) (hk : PK X [⟨some "start", k, kpos⟩] tk)
    (hpl : ((backTo pos (starEach [e] X.env)).any (·.1) || (backToKw pos (keywordEach [⟨some "start", k, kpos⟩] X.env)).any (·.1.isNone)) = false := by rfl) (he : starEach [e] X.env = (false, eval e X.env) :: starEach [] X.env := by rfl) :
    PI X (.Tuple elts kk tpos) (.Call (.Name "enumerate" p) [e] [⟨some "start", k, kpos⟩] pos) (iEnumS (IteT X.K) (SqT X.K) ta tk) := by
  refine ⟨fun pins s σ H R I h => ?_⟩
  refine wpAny_Call_Name_kw (ld_blt I hg hm boot_enumerate (callWith_tyK rfl (thn (ha.run pos pins s σ H _ I h) fun us s0 ⟨vs, H0, I0, r0, q0⟩ => thn (hk.run pos pins s0 σ H0 _ I0 q0) fun ks s1 ⟨ws, H1, I1, r1, a, c, xs, ex, ew, c0, c1, hq, q⟩ => ?_) hpl he))
  subst ex ew
  obtain rfl := Vals.ref1 r0
  obtain ⟨u, rfl, ru⟩ := vals1 r1
  obtain ⟨t, rfl⟩ := ru
  obtain ⟨its, rv, tp, hz⟩ := I1.tuple hq
  have isT : s1.heap.IsTuple a its.toArray := by
    obtain ⟨o, e1, e2, n, e3⟩ := tp
    exact ⟨o, e1, e2, n, e3⟩
  have al : a < s1.heap.objs.size := by
    obtain ⟨o, e1, _⟩ := isT
    exact Heap.lt_size e1
  refine enum_begins_start (begins_tuple a its.toArray) isT c0 c1 fun h' he hit hsz hk => wpAny_pyIter_enum he ?_
  have I2 : Inv X pins σ H1 { s1 with heap := h' } := I1.kept (t' := s1.toks) hk
  refine ⟨s1.heap.objs.size + 1, [s1.heap.objs.size + 1, s1.heap.objs.size], _, _, H1, rfl, I2, turn_enumT a (s1.heap.objs.size + 1) s1.heap.objs.size c (Nat.ne_of_lt al), ⟨⟨.none, by simpa using he⟩, ⟨_, hit, rfl, rfl⟩, Nat.succ_ne_self _, Nat.ne_of_lt (Nat.lt_succ_of_lt al)⟩, fun b hb => ?_, q⟩
  have hle : s1.heap.objs.size ≤ b := by
    rcases (show b = s1.heap.objs.size + 1 ∨ b = s1.heap.objs.size by simpa using hb) with z | z
    · rw [z]; exact Nat.le_add_right _ _
    · rw [z]; exact Nat.le_refl _
  exact I1.fpOk hle (I1.hok.fresh hle)
theorem pi_enumLS {X : Cx} {e k : Expr} {ta tk : TA} {p pos tpos kpos : Pos} {elts : List Expr} {kk : Nat} (hg : Gl X "enumerate") (hm : X.mg "enumerate" = none) (ha : PA X [e] ta) (hk : PK X [⟨some "start", k, kpos⟩] tk)
    (hpl : ((backTo pos (starEach [e] X.env)).any (·.1) || (backToKw pos (keywordEach [⟨some "start", k, kpos⟩] X.env)).any (·.1.isNone)) = false := by rfl) (he : starEach [e] X.env = (false, eval e X.env) :: starEach [] X.env := by rfl) :
    PI X (.Tuple elts kk tpos) (.Call (.Name "enumerate" p) [e] [⟨some "start", k, kpos⟩] pos) (iEnumS (IteL X.K) (SqL X.K) ta tk) := by
  refine ⟨fun pins s σ H R I h => ?_⟩
  refine wpAny_Call_Name_kw (ld_blt I hg hm boot_enumerate (callWith_tyK rfl (thn (ha.run pos pins s σ H _ I h) fun us s0 ⟨vs, H0, I0, r0, q0⟩ => thn (hk.run pos pins s0 σ H0 _ I0 q0) fun ks s1 ⟨ws, H1, I1, r1, a, c, xs, ex, ew, c0, c1, hq, q⟩ => ?_) hpl he))
  subst ex ew
  obtain rfl := Vals.ref1 r0
  obtain ⟨u, rfl, ru⟩ := vals1 r1
  obtain ⟨t, rfl⟩ := ru
  obtain ⟨its, rv, tp, hz⟩ := I1.list hq
  have isT : s1.heap.IsList a its.toArray := tp.isList
  have al : a < s1.heap.objs.size := by
    obtain ⟨o, e1, _⟩ := isT
    exact Heap.lt_size e1
  refine enum_begins_start (begins_list a its.toArray) isT c0 c1 fun h' he hit hsz hk => wpAny_pyIter_enum he ?_
  have I2 : Inv X pins σ H1 { s1 with heap := h' } := I1.kept (t' := s1.toks) hk
  refine ⟨s1.heap.objs.size + 1, [s1.heap.objs.size + 1, s1.heap.objs.size], _, _, H1, rfl, I2, turn_enumL a (s1.heap.objs.size + 1) s1.heap.objs.size c (Nat.ne_of_lt al), ⟨⟨.none, by simpa using he⟩, ⟨_, hit, rfl, rfl⟩, Nat.succ_ne_self _, Nat.ne_of_lt (Nat.lt_succ_of_lt al)⟩, fun b hb => ?_, q⟩
  have hle : s1.heap.objs.size ≤ b := by
    rcases (show b = s1.heap.objs.size + 1 ∨ b = s1.heap.objs.size by simpa using hb) with z | z
    · rw [z]; exact Nat.le_add_right _ _
    · rw [z]; exact Nat.le_refl _
  exact I1.fpOk hle (I1.hok.fresh hle)
theorem pi_enumTSK {X : Cx} {K : PySem.W.Frag} {e k : Expr} {ta tk : TA} {p pos tpos kpos : Pos} {elts : List Expr} {kk : Nat} (hK : X.K = K) (hg : Gl X "enumerate") (hm : X.mg "enumerate" = none) (ha : PA X [e] ta) (hk : PK X [⟨some "start", k, kpos⟩] tk)
    (hpl : ((backTo pos (starEach [e] X.env)).any (·.1) || (backToKw pos (keywordEach [⟨some "start", k, kpos⟩] X.env)).any (·.1.isNone)) = false := by rfl) (he : starEach [e] X.env = (false, eval e X.env) :: starEach [] X.env := by rfl) :
    PI X (.Tuple elts kk tpos) (.Call (.Name "enumerate" p) [e] [⟨some "start", k, kpos⟩] pos) (iEnumS (IteT K) (SqT K) ta tk) := hK ▸ pi_enumTS hg hm ha hk hpl he
theorem pi_enumLSK {X : Cx} {K : PySem.W.Frag} {e k : Expr} {ta tk : TA} {p pos tpos kpos : Pos} {elts : List Expr} {kk : Nat} (hK : X.K = K) (hg : Gl X "enumerate") (hm : X.mg "enumerate" = none) (ha : PA X [e] ta) (hk : PK X [⟨some "start", k, kpos⟩] tk)
    (hpl : ((backTo pos (starEach [e] X.env)).any (·.1) || (backToKw pos (keywordEach [⟨some "start", k, kpos⟩] X.env)).any (·.1.isNone)) = false := by rfl) (he : starEach [e] X.env = (false, eval e X.env) :: starEach [] X.env := by rfl) :
    PI X (.Tuple elts kk tpos) (.Call (.Name "enumerate" p) [e] [⟨some "start", k, kpos⟩] pos) (iEnumS (IteL K) (SqL K) ta tk) := hK ▸ pi_enumLS hg hm ha hk hpl he
end Eyes

set_option Elab.async false
set_option linter.all false
set_option maxRecDepth 100000
set_option maxHeartbeats 4000000
namespace Eyes
open PySem PySem.Spec PyProof.Rows L2 Evl TL
theorem it_byW {J : It} {n : Nat} {G : Hp → Prop} {Y : Nat → Hp → V → Hp → Prop} (w : Walk J n G Y) {Qd : Hp → Prop} {B : V → Hp → (Hp → Prop) → Prop} {H0 : Hp} (Pv : Nat → Hp → Prop) (h0 : Pv 0 H0) (hG : ∀ i H, i ≤ n → Pv i H → G H)
    (hs : ∀ i x H H', i < n → Pv i H → Y i H x H' → B x H' (Pv (i + 1))) (hd : ∀ H, Pv n H → Qd H) :
    ∃ W : Nat → Nat → Hp → Prop, (∃ m, W 0 m H0) ∧ ∀ i m H, W i m H →
      (J.stop i H ∧ Qd H) ∨ (J.go i H ∧ ∃ Nx : Hp → Prop, (∀ H', Nx H' → ∃ m', m' < m ∧ W (i + 1) m' H') ∧ ∀ x H', J.yld i H x H' → B x H' Nx) := by
  refine ⟨fun i m H => m = n - i ∧ i ≤ n ∧ Pv i H, ⟨n, by simp, Nat.zero_le _, h0⟩, ?_⟩
  rintro i m H ⟨rfl, hi, p⟩
  have g := hG i H hi p
  by_cases hlt : i < n
  · exact .inr ⟨w.goes i H hlt g, Pv (i + 1), fun H' p' => ⟨n - (i + 1), by omega, rfl, hlt, p'⟩, fun x H' y => hs i x H H' hlt p (w.yields i H x H' hlt g y)⟩
  · have e : i = n := by omega
    subst e
    exact .inl ⟨w.stops H g, hd H p⟩
def less (n : Nat) (p : List Nat) : List (Nat × Nat) := (numd n p).filter fun xy => decide (xy.2 < xy.1)
def Pts (K : PySem.W.Frag) (n : Nat) (H : Hp) (us : List V) (ps : List (List Nat)) : Prop := us.length = ps.length ∧ ∀ (i : Nat) u, us[i]? = some u → ∃ q p, u = .ref q ∧ ps[i]? = some p ∧ SqT K H q (nvs p) ∧ IsP n p
def spJoined (K : PySem.W.Frag) : Sp := fun vs H Q _ => ∃ (n : Nat) (a : Addr) (us : List V) (ps : List (List Nat)), vs = [.ref a] ∧ n ≤ 4096 ∧ ps.length ≤ 200 ∧ 0 < ps.length ∧ SqL K H a us ∧ Pts K n H us ps ∧ ∀ r H', Ex H H' → H r = none → H' r = some (.tup (nvs (mrgs (alone n) (ps.flatMap (less n))))) → Q (.ref r) H'
theorem numd_get {n k : Nat} {p : List Nat} (h : k < n) : (numd n p)[k]? = some (k + 1, itm p (k + 1)) := by
  unfold numd
  rw [List.getElem?_map, List.getElem?_range h]
  rfl
theorem numd_len {n : Nat} {p : List Nat} : (numd n p).length = n := by
  unfold numd
  rw [List.length_map, List.length_range]
theorem less_len {n : Nat} {p : List Nat} {i : Nat} : (((numd n p).take i).filter fun xy => decide (xy.2 < xy.1)).length ≤ n := by
  refine Nat.le_trans (List.length_filter_le ..) ?_
  rw [List.length_take, numd_len]
  exact Nat.min_le_right ..
theorem less_in {n : Nat} {p : List Nat} (h : IsP n p) : inN n (less n p) := fun xy hxy => numd_in h xy (List.mem_filter.mp hxy).1
section
variable {P : Program} {w : World} {K : PySem.W.Frag} {mg : Str → Option Value} {base : Heap} {AA : Adr}
theorem ok_joined (T : Txt K mg AA) : Pr P w K mg base "joined" s_joined p_joined 2 (spJoined K) := by
  refine pr_mk T.f_joined sc_joined (fun vs H Q E h => ?_) (fun f cdv A outer s H vs Q E hr h => ?_)
  · obtain ⟨n, a, us, ps, rfl, _⟩ := h
    rfl
  · obtain ⟨n, a, us, ps, rfl, hn, hp200, hp0, ha, hps, qq⟩ := h
    refine ⟨_, (pss_cons (ps_setLc2 (i := 1) (own := [("parting", 2), ("case", 3), ("item", 4)]) (vs1 := [3, 4]) (g := gName 2) (tt := tYes) (g1 := gTup K 2 (gCons (gName 3) (gCons (gName 4) gNil))) rfl sc_joined.nd rfl rfl (sw_true rfl rfl rfl (by decide +kernel)) (pi_list (pv 0)) (blkOk_by (own := [("parting", 2), ("case", 3), ("item", 4)]) (N := n_joined) (sc := defScope s_joined) (by decide +kernel)) (by decide) (fun _ _ _ _ _ => (pg_name (i := 2) sc_joined.nd rfl (.inl rfl))) (fun _ _ _ _ _ => pts_nil) (fun _ _ _ _ _ => (pi_enumTSK (K := K) rfl (by rfl) T.n_enumerate (pa_cons (pv 2) pa_nil) (pk_cons pe_int pk_nil))) (fun _ _ _ _ _ => (pg_tup (by rfl) (pgs_cons (pg_name (i := 3) sc_joined.nd rfl (.inl rfl)) (pgs_cons (pg_name (i := 4) sc_joined.nd rfl (.inl rfl)) pgs_nil)))) (fun _ _ _ _ _ => (pts_one (pt_cmpR op_lt (pv 4) (pv 3) (nomark _)))) (fun _ _ _ _ _ => (pe_tup (pa_cons (pv 3) (pa_cons (pv 4) pa_nil)))))
      (pss_one (ps_ret (pcall (ok_linked T) hr (pa_cons (pe_callB call_len (by rfl) T.n_len PySem.boot_len (pa_cons (pe_ix (ix_listK (K := K) rfl) (pv 0) pe_int (fun _ _ => rfl)) pa_nil)) (pa_cons (pv 1) pa_nil)))))), ?_⟩
    have hflen : ∀ i : Nat, ((ps.take i).flatMap (less n)).length ≤ i * n := fun i => by
      have h1 : ∀ l : List (List Nat), (l.flatMap (less n)).length ≤ l.length * n := fun l => by
        induction l with
        | nil => exact Nat.zero_le _
        | cons p l ih =>
          rw [List.flatMap_cons, List.length_append, List.length_cons, Nat.succ_mul]
          have : (less n p).length ≤ n := Nat.le_trans (List.length_filter_le ..) (by rw [numd_len]; exact Nat.le_refl _)
          omega
      refine Nat.le_trans (h1 _) (Nat.mul_le_mul_right _ ?_)
      rw [List.length_take]
      exact Nat.min_le_left ..
    refine ⟨_, rfl, a, rfl, ⟨us, ha⟩, fun D hD => it_byW (walk_list (xs := us)) (fun i H' => H D = none ∧ Ex H H' ∧ ∃ ws, H' D = some (.lst ws) ∧ Prh H' ws ((ps.take i).flatMap (less n))) ⟨hD, Ex.new hD, [], upd_same, rfl, fun i v hv => by cases hv⟩ (fun _ _ _ hp => ex_l hp.2.1 ha) (fun i v H3 H4 hi hp hy => ?_) (fun H' hp => ?_)⟩
    · obtain ⟨rfl, hv⟩ := hy
      obtain ⟨h1, h2, ws, h3, h4⟩ := hp
      obtain ⟨qa, p, rfl, hpi, hqa, hP⟩ := hps.2 i v hv
      refine ⟨rfl, _, rfl, qa, 1, _, rfl, rfl, by decide, by decide, ex_t h2 hqa, ?_⟩
      refine it_byW (walk_enumT (xs := nvs p)) (fun j H' => Ex H H' ∧ ∃ ws, H' D = some (.lst ws) ∧ Prh H' ws ((ps.take i).flatMap (less n) ++ ((numd n p).take j).filter fun xy => decide (xy.2 < xy.1))) ⟨h2, ws, h3, ?_⟩ (fun _ _ _ hq => ex_t hq.1 hqa) (fun j u H6 H7 hj hq hy6 => ?_) (fun H' hq => ?_)
      · rw [List.take_zero, List.filter_nil, List.append_nil]
        exact h4
      · obtain ⟨e6, ws6, h6, h7⟩ := hq
        obtain ⟨T1, u1, u2, rfl, hT, rfl, g1, g2⟩ := hy6
        rw [nvs_len, hP.len] at hj
        obtain rfl : u2 = .int (itm p (j + 1) : Nat) := Option.some.inj (g2.symm.trans (nvs_get (itm_get (x := j + 1) (by omega) (by rw [hP.len]; omega))))
        obtain rfl : V.int (1 + (j : Int)) = u1 := Option.some.inj g1
        have e7 : Ex H6 (upd H6 T1 (.tup [.int (1 + (j : Int)), .int (itm p (j + 1) : Nat)])) := Ex.new hT
        have htk : (numd n p).take (j + 1) = (numd n p).take j ++ [(j + 1, itm p (j + 1))] := by
          rw [List.take_add_one, numd_get hj]
          rfl
        refine ⟨T1, _, rfl, st_of upd_same, rfl, _, _, rfl, _, _, rfl, rfl, rfl, _, rfl, _, rfl, _, _, rfl, rfl, _, rfl, ite2 (fun hlt => ?_) (fun hlt => ?_)⟩
        · have hlt : itm p (j + 1) < j + 1 := by
            have := of_decide_eq_true hlt
            omega
          refine ⟨_, rfl, _, rfl, by show 2 ≤ sizeLine; decide, fun t nt => ?_⟩
          have e8 := e7.trans (Ex.new (o := .tup [.int (1 + (j : Int)), .int (itm p (j + 1) : Nat)]) nt)
          refine ⟨_, e8 _ _ h6, ?_, (e6.trans e8).mut h1, _, upd_same, ?_⟩
          · rw [h7.1, List.length_append]
            have a1 := hflen i
            have a2 := less_len (n := n) (p := p) (i := j)
            have a3 : i < ps.length := by rw [← hps.1]; exact hi
            have a4 : i * n ≤ 200 * 4096 := Nat.mul_le_mul (by omega) hn
            have : 200 * 4096 + 4096 < sizeLine := by decide
            omega
          · refine Prh.put (xs := ws6) ?_ (e8 _ _ h6)
            rw [htk, List.filter_append, ← List.append_assoc, show ([(j + 1, itm p (j + 1))].filter fun xy => decide (xy.2 < xy.1)) = [(j + 1, itm p (j + 1))] by simp [hlt]]
            refine (h7.ex e8).snoc ?_
            rw [upd_same]
            have : (1 + (j : Int)) = ((j + 1 : Nat) : Int) := by omega
            rw [this]
        · have hlt : ¬ itm p (j + 1) < j + 1 := fun z => hlt (decide_eq_true (by omega))
          refine ⟨e6.trans e7, _, e7 _ _ h6, ?_⟩
          rw [htk, List.filter_append, show ([(j + 1, itm p (j + 1))].filter fun xy => decide (xy.2 < xy.1)) = [] by simp; omega, List.append_nil]
          exact h7.ex e7
      · obtain ⟨e6, ws6, h6, h7⟩ := hq
        rw [nvs_len, hP.len, List.take_of_length_le (l := numd n p) (by rw [numd_len]; exact Nat.le_refl _)] at h7
        refine ⟨h1, e6, ws6, h6, ?_⟩
        rw [List.take_add_one, hpi, List.flatMap_append]
        show Prh H' ws6 (_ ++ [p].flatMap (less n))
        rw [List.flatMap_cons, List.flatMap_nil, List.append_nil]
        exact h7
    · obtain ⟨h1, h2, ws, h3, h4⟩ := hp
      rw [List.take_of_length_le (by rw [hps.1]; exact Nat.le_refl _)] at h4
      have hu0 : us[0]? = some (us[0]'(by rw [hps.1]; exact hp0)) := List.getElem?_eq_getElem _
      obtain ⟨q0, p0, eq0, hp0', hq0, hP0⟩ := hps.2 0 _ hu0
      rw [eq0] at hu0
      have hin : inN n (ps.flatMap (less n)) := fun xy hxy => by
        obtain ⟨p, hp, hxy⟩ := List.mem_flatMap.mp hxy
        obtain ⟨i, hi⟩ := List.getElem?_of_mem hp
        obtain ⟨q, p2, _, g, _, hP⟩ := hps.2 i _ (List.getElem?_eq_getElem (by rw [hps.1]; exact (List.getElem?_eq_some_iff.mp hi).1))
        rw [g] at hi
        obtain rfl := Option.some.inj hi
        exact less_in hP xy hxy
      refine ⟨_, rfl, a, _, 0, _, rfl, rfl, ex_l h2 ha, atI_nat (j := 0) hu0, _, n, rfl, .inr ⟨_, ex_t h2 hq0, by rw [nvs_len, hP0.len]⟩, _, rfl, ?_⟩
      exact ⟨n, D, ws, ps.flatMap (less n), rfl, hn, .inl (sq_of h3), h4.to, hin, fun r H5 e5 n5 h5 => qq r H5 (h2.trans e5) (fresh_back h2 n5) h5⟩
end
end Eyes

set_option Elab.async false
set_option linter.all false
set_option maxRecDepth 100000
set_option maxHeartbeats 4000000
namespace Eyes
open PySem PySem.Spec PyProof.Rows L2 Evl TL
def numD (d : PyData) (a b : Int) : Bool := match d with
  | .int i => decide (a ≤ i) && decide (i ≤ b)
  | _ => false
def spNumber (K : PySem.W.Frag) : Sp := fun vs H Q _ => ∃ (v : V) (d : PyData) (a b : Int), vs = [v, .int a, .int b] ∧ Rep H v d ∧ Q (.bl (numD d a b)) H
section
variable {P : Program} {w : World} {K : PySem.W.Frag} {mg : Str → Option Value} {base : Heap} {AA : Adr}
theorem ok_is_number (T : Txt K mg AA) : Pr P w K mg base "is_number" s_is_number p_is_number 1 (spNumber K) := by
  refine pr_mk T.f_is_number sc_is_number (fun vs H Q E h => ?_) (fun f cdv A outer s H vs Q E hr h => ?_)
  · obtain ⟨v, d, a, b, rfl, _⟩ := h
    rfl
  · obtain ⟨v, d, a, b, rfl, hv, q⟩ := h
    refine ⟨_, (pss_cons (ps_if (PW.pt (pw_or (pt_val (pe_callB (call_isiK (K := K) rfl) (by rfl) T.n_isinstance PyProof.Rows.boot_isinstance (pa_cons (pv 0) (pa_cons (pe_bltn (v := .ty "bool") (by rfl) T.n_bool (by decide +kernel) rfl) pa_nil)))) (pw_or1 (pt_not (pt_val (pe_callB (call_isiK (K := K) rfl) (by rfl) T.n_isinstance PyProof.Rows.boot_isinstance (pa_cons (pv 0) (pa_cons (pe_bltn (v := .ty "int") (by rfl) T.n_int (by decide +kernel) rfl) pa_nil))))))))
      (pss_one (ps_ret pe_bl))
      pss_nil)
      (pss_one (ps_ret (pe_chain op_le op_le (pv 1) (pv 0) (pv 2))))), ?_⟩
    have no : ∀ kb ki : Bool, PySem.W.kitOne K (.type (tyD d)) (.type "bool") = some kb → PySem.W.kitOne K (.type (tyD d)) (.type "int") = some ki → (kb = true ∨ ki = false) → numD d a b = false → (tSeq
    (tIfS
      (tOr (tB (tCB (rIsi K) (tCons (tVar 0) (tCons (tC (V.ty "bool")) tNil))))
        (tNot (tB (tCB (rIsi K) (tCons (tVar 0) (tCons (tC (V.ty "int")) tNil))))))
      (tRet (tC (V.bl false))) tNext)
    (tRet
      (tChain (rI0 fun i j => V.bl (decide (i ≤ j))) (rI0 fun i j => V.bl (decide (i ≤ j))) (tVar 1) (tVar 0) (tVar 2)))
    { nx := fun x H' => Q V.non H', rt := Q } (L2.start n_is_number [v, V.int a, V.int b]) H) := fun kb ki h1 h2 h3 h4 => by
      rw [h4] at q
      cases kb with
      | true => exact ⟨_, rfl, v, .ty "bool", _, _, true, rfl, .ty _, hv.ty, h1, _, rfl, iteT (iteT q)⟩
      | false =>
        cases ki with
        | true => rcases h3 with h3 | h3 <;> cases h3
        | false => exact ⟨_, rfl, v, .ty "bool", _, _, false, rfl, .ty _, hv.ty, h1, _, rfl, iteF ⟨_, rfl, v, .ty "int", _, _, false, rfl, .ty _, hv.ty, h2, _, rfl, iteT q⟩⟩
    cases d with
    | int i =>
      cases hv
      refine ⟨_, rfl, .int i, .ty "bool", _, _, false, rfl, .ty _, (Rep.int (H := H) i).ty, kit_ty (a := "int") (by decide +kernel), _, rfl, iteF ⟨_, rfl, .int i, .ty "int", _, _, true, rfl, .ty _, (Rep.int (H := H) i).ty, kit_ty (a := "int") (by decide +kernel), _, rfl, iteF ?_⟩⟩
      have q : Q (V.bl (decide (a ≤ i) && decide (i ≤ b))) H := q
      refine ⟨_, rfl, _, rfl, a, i, rfl, rfl, _, rfl, ite2 (fun h1 => ?_) (fun h1 => ?_)⟩
      · rw [h1] at q
        exact ⟨_, rfl, i, b, rfl, rfl, q⟩
      · rw [show decide (a ≤ i) = false by cases e : decide (a ≤ i) with | true => exact absurd e h1 | false => rfl] at q
        exact q
    | none => exact no false false (kit_ty (a := "NoneType") (by decide +kernel)) (kit_ty (a := "NoneType") (by decide +kernel)) (.inr rfl) rfl
    | bool z => exact no true true (kit_ty (a := "bool") (by decide +kernel)) (kit_ty (a := "bool") (by decide +kernel)) (.inl rfl) rfl
    | str z => exact no false false (kit_ty (a := "str") (by decide +kernel)) (kit_ty (a := "str") (by decide +kernel)) (.inr rfl) rfl
    | list z => exact no false false (kit_ty (a := "list") (by decide +kernel)) (kit_ty (a := "list") (by decide +kernel)) (.inr rfl) rfl
    | tuple z => exact no false false (kit_ty (a := "tuple") (by decide +kernel)) (kit_ty (a := "tuple") (by decide +kernel)) (.inr rfl) rfl
    | dict z => exact no false false (kit_ty (a := "dict") (by decide +kernel)) (kit_ty (a := "dict") (by decide +kernel)) (.inr rfl) rfl
def itemD (ds : List PyData) (k : Nat) : Bool := match ds[k]? with
  | some d => numD d 1 ((k : Int) + 1) && (match d with
    | .int i => (match ds[(i - 1).toNat]? with
      | some e => PyData.eqv e (.int i)
      | none => false)
    | _ => false)
  | none => false
theorem itemD_no {ds : List PyData} {k : Nat} {d : PyData} (h : ds[k]? = some d) (h2 : numD d 1 ((k : Int) + 1) = false) : itemD ds k = false := by
  unfold itemD
  rw [h]
  show (numD d 1 ((k : Int) + 1) && _) = false
  rw [h2, Bool.false_and]
theorem itemD_int {ds : List PyData} {k : Nat} {i : Int} {e : PyData} (h : ds[k]? = some (.int i)) (h2 : numD (.int i) 1 ((k : Int) + 1) = true) (h3 : ds[(i - 1).toNat]? = some e) : itemD ds k = PyData.eqv e (.int i) := by
  unfold itemD
  rw [h]
  show (numD (.int i) 1 ((k : Int) + 1) && (match ds[(i - 1).toNat]? with
      | some e => PyData.eqv e (.int i)
      | none => false)) = _
  rw [h2, Bool.true_and, h3]
def spItem (K : PySem.W.Frag) : Sp := fun vs H Q _ => ∃ (a : Addr) (xs : List V) (ds : List PyData) (k : Nat), vs = [.ref a, .int k] ∧ SqT K H a xs ∧ Reps H xs ds ∧ (∀ d ∈ ds, SeqAt.shaped d = true) ∧ k < xs.length ∧ Q (.bl (itemD ds k)) H
theorem ok_is_item (T : Txt K mg AA) : Pr P w K mg base "is_item" s_is_item p_is_item 2 (spItem K) := by
  refine pr_mk T.f_is_item sc_is_item (fun vs H Q E h => ?_) (fun f cdv A outer s H vs Q E hr h => ?_)
  · obtain ⟨a, xs, ds, k, rfl, _⟩ := h
    rfl
  · obtain ⟨a, xs, ds, k, rfl, ha, hR, hsh, hk, q⟩ := h
    refine ⟨_, (pss_one (ps_ret (pe_and (pcall (ok_is_number T) hr (pa_cons (pe_ix (ix_tupK (K := K) rfl) (pv 0) (pv 1) (fun _ _ => rfl)) (pa_cons pe_int (pa_cons (pe_op op_add (pv 1) pe_int) pa_nil)))) (pe_one (pe_cmpR (op_eqD hr.units) (pe_ix (ix_tupK (K := K) rfl) (pv 0) (pe_op op_sub (pe_ix (ix_tupK (K := K) rfl) (pv 0) (pv 1) (fun _ _ => rfl)) pe_int) (fun _ _ => rfl)) (pe_ix (ix_tupK (K := K) rfl) (pv 0) (pv 1) (fun _ _ => rfl)) (nomark _)))))), ?_⟩
    obtain ⟨d, hd, hv⟩ := hR.get (List.getElem?_eq_getElem hk)
    have hx : xs[k]? = some xs[k] := List.getElem?_eq_getElem hk
    generalize xs[k] = v at hv hx
    refine ⟨_, rfl, _, rfl, a, _, _, v, rfl, rfl, ha, atI_nat hx, _, rfl, k, 1, rfl, rfl, v, d, 1, (k : Int) + 1, rfl, hv, ?_⟩
    cases hn : numD d 1 ((k : Int) + 1) with
    | false =>
      rw [itemD_no hd hn] at q
      exact ⟨_, rfl, iteF q⟩
    | true =>
      cases d with
      | int i =>
        cases hv
        have hi : 1 ≤ i ∧ i ≤ (k : Int) + 1 := by
          have h : (decide (1 ≤ i) && decide (i ≤ (k : Int) + 1)) = true := hn
          rw [Bool.and_eq_true] at h
          exact ⟨of_decide_eq_true h.1, of_decide_eq_true h.2⟩
        have hj : (i - 1).toNat < xs.length := by omega
        obtain ⟨e, he, hve⟩ := hR.get (List.getElem?_eq_getElem hj)
        have hxe : xs[(i - 1).toNat]? = some xs[(i - 1).toNat] := List.getElem?_eq_getElem hj
        generalize xs[(i - 1).toNat] = v2 at hve hxe
        rw [itemD_int hd hn he] at q
        refine ⟨_, rfl, iteT ?_⟩
        refine ⟨_, rfl, _, rfl, _, rfl, a, _, _, .int i, rfl, rfl, ha, atI_nat hx, i, 1, rfl, rfl, a, _, _, v2, rfl, rfl, ha, at_of' (by omega) hxe, _, rfl, _, rfl, a, _, _, .int i, rfl, rfl, ha, atI_nat hx, ?_⟩
        exact ⟨e, .int i, hve.dp, .int i, hsh e (List.mem_of_getElem? he), rfl, q⟩
      | _ => cases hn
def partD (d : PyData) : Bool := match d with
  | .tuple ds => decide (ds ≠ []) && (List.range ds.length).all fun k => itemD ds k
  | _ => false
def spIsPart (K : PySem.W.Frag) : Sp := fun vs H Q _ => ∃ (v : V) (d : PyData), vs = [v] ∧ Rep H v d ∧ (∀ ds, d = .tuple ds → ds.length ≤ 4096 ∧ ∀ e ∈ ds, SeqAt.shaped e = true) ∧ ∀ H', Ex H H' → Q (.bl (partD d)) H'
theorem ok_is_parting (T : Txt K mg AA) : Pr P w K mg base "is_parting" s_is_parting p_is_parting 3 (spIsPart K) := by
  refine pr_mk T.f_is_parting sc_is_parting (fun vs H Q E h => ?_) (fun f cdv A outer s H vs Q E hr h => ?_)
  · obtain ⟨v, d, rfl, _⟩ := h
    rfl
  · obtain ⟨v, d, rfl, hv, hd, q⟩ := h
    refine ⟨_, (pss_cons (ps_if (PW.pt (pw_or (pt_not (pt_val (pe_callB (call_isiK (K := K) rfl) (by rfl) T.n_isinstance PyProof.Rows.boot_isinstance (pa_cons (pv 0) (pa_cons (pe_bltn (v := .ty "tuple") (by rfl) T.n_tuple (by decide +kernel) rfl) pa_nil))))) (pw_or1 (pt_cmpR op_eq (pe_callB (call_len_seqK (K := K) rfl) (by rfl) T.n_len PySem.boot_len (pa_cons (pv 0) pa_nil)) pe_int (nomark _)))))
      (pss_one (ps_ret pe_bl))
      pss_nil)
      (pss_one (ps_ret (pe_callB (cr_all rfl) (by rfl) T.n_all PyProof.Rows.boot_all (pa_cons (pe_lc (own := [("at", 1)]) (g := gName 1) (tt := tYes) rfl sc_is_parting.nd (pi_range1 (by rfl) T.n_range (pa_cons (pe_callB (call_len_seqK (K := K) rfl) (by rfl) T.n_len PySem.boot_len (pa_cons (pv 0) pa_nil)) pa_nil)) (blkOk_by (own := [("at", 1)]) (N := n_is_parting) (sc := defScope s_is_parting) (by decide +kernel)) (fun _ _ _ _ _ => (pg_name (i := 1) sc_is_parting.nd rfl (.inl rfl))) (fun _ _ _ _ _ => pts_nil) (fun _ _ _ _ _ => (pcall (ok_is_item T) hr (pa_cons (pv 0) (pa_cons (pv 1) pa_nil))))) pa_nil))))), ?_⟩
    have no : PySem.W.kitOne K (.type (tyD d)) (.type "tuple") = some false → partD d = false → (tSeq
    (tIfS
      (tOr (tNot (tB (tCB (rIsi K) (tCons (tVar 0) (tCons (tC (V.ty "tuple")) tNil)))))
        (tTest
          (tOp rEq
            (tCB (fun xs H Q => ∃ p ys, xs = [V.ref p] ∧ (SqL K H p ys ∨ SqT K H p ys) ∧ Q (V.int ↑ys.length) H)
              (tCons (tVar 0) tNil))
            (tC (V.int 0)))))
      (tRet (tC (V.bl false))) tNext)
    (tRet
      (tCB
        (rAll K)
        (tCons
          (tLc
            (iRng1
              (tCons
                (tCB (fun xs H Q => ∃ p ys, xs = [V.ref p] ∧ (SqL K H p ys ∨ SqT K H p ys) ∧ Q (V.int ↑ys.length) H)
                  (tCons (tVar 0) tNil))
                tNil))
            (gName 1) tYes (tCall (spItem K) [] (fun x x_1 x_2 => False) (tCons (tVar 0) (tCons (tVar 1) tNil)))
            (List.map (fun x => x.snd) [(Str.ofString "at", 1)]))
          tNil)))
    { nx := fun x H' => Q V.non H', rt := Q } (L2.start n_is_parting [v]) H) := fun h1 h2 => by
      have q := q H (Ex.refl _)
      rw [h2] at q
      exact ⟨_, rfl, v, .ty "tuple", _, _, false, rfl, .ty _, hv.ty, h1, _, rfl, iteT (iteT q)⟩
    cases d with
    | tuple ds =>
      obtain ⟨hl, hsh⟩ := hd ds rfl
      cases hv with
      | @tup a xs _ hx hR =>
      have hlen := hR.length
      refine ⟨_, rfl, .ref a, .ty "tuple", _, _, true, rfl, .ty _, (Rep.tup hx hR).ty, kit_ty (a := "tuple") (by decide +kernel), _, rfl, iteF ?_⟩
      refine ⟨_, rfl, a, xs, rfl, .inr (st_of hx), rfl, _, rfl, ite2 (fun h0 => ?_) (fun h0 => ?_)⟩
      · have q := q H (Ex.refl _)
        have h1 : V.int (xs.length : Int) = V.int 0 := of_decide_eq_true h0
        injection h1 with h1
        have h2 : ds = [] := List.length_eq_zero_iff.mp (by omega)
        rw [h2] at q
        exact q
      · have h2 : ds ≠ [] := fun z => h0 (by
          rw [z] at hlen
          rw [hlen]
          rfl)
        refine ⟨_, rfl, a, xs, rfl, .inr (st_of hx), _, rfl, by omega, by omega, ?_⟩
        rw [show ((xs.length : Nat) : Int).toNat = xs.length by omega]
        refine fun D hD => lc_it walk_range (fun i H' => H D = none ∧ Ex H H' ∧ H' D = some (.lst (((List.range i).map fun k => itemD ds k).map V.bl))) ⟨hD, Ex.new hD, upd_same⟩ (fun _ _ _ _ => trivial) (fun i v H3 H4 hi hp hy => ?_) (fun H' hp => ?_)
        · obtain ⟨h1, h4, h3⟩ := hp
          obtain ⟨rfl, rfl⟩ := hy
          refine ⟨rfl, _, rfl, _, rfl, a, xs, ds, i, ?_, st_of (h4 _ _ hx), hR.mono h4, hsh, hi, _, h3, ?_, h1, h4.mut h1, ?_⟩
          · show [V.ref a, V.int (0 + (i : Int))] ++ [] = _
            rw [Int.zero_add]
            rfl
          · rw [List.length_map, List.length_map, List.length_range]
            have : 4097 < sizeLine := by decide
            omega
          · rw [upd_same, List.range_succ, List.map_append, List.map_append]
            rfl
        · obtain ⟨h1, h4, h3⟩ := hp
          refine ⟨D, _, rfl, sq_of h3, ?_⟩
          rw [all_take]
          have q := q _ h4
          rw [show partD (.tuple ds) = (List.range xs.length).all fun k => itemD ds k by
            show (decide (ds ≠ []) && _) = _
            rw [decide_eq_true h2, Bool.true_and, hlen]] at q
          exact q
    | none => exact no (kit_ty (a := "NoneType") (by decide +kernel)) rfl
    | bool z => exact no (kit_ty (a := "bool") (by decide +kernel)) rfl
    | int z => exact no (kit_ty (a := "int") (by decide +kernel)) rfl
    | str z => exact no (kit_ty (a := "str") (by decide +kernel)) rfl
    | list z => exact no (kit_ty (a := "list") (by decide +kernel)) rfl
    | dict z => exact no (kit_ty (a := "dict") (by decide +kernel)) rfl
end
end Eyes

set_option Elab.async false
set_option linter.all false
set_option maxRecDepth 100000
set_option maxHeartbeats 4000000
/-! d.setdefault(key, v), the key a tuple; {} of either kind. -/
namespace Eyes
open PySem PySem.Spec PyProof.Rows L2
section
variable {X : Cx} {pins : List (Addr × Obj)} {σ : L2.St} {H : Hp} {s : Shared} {a b : Addr} {r : Value} {d : V} {k : List L2.Key} {A : Around} {E : Value → Shared → Prop}
theorem d_setdT {kvs : List (List L2.Key × V)} {Q : Value → Shared → Prop} (hu : A.units + 1 < cLine) (I : Inv X pins σ H s) (e : H a = some (.dT kvs)) (eb : H b = some (.tup (k.map kV))) (rd : RelV d r) (hl : kvs.length < sizeLine)
    (h1 : ∀ v, valV kvs k = some v → ∀ (w' : Value) (s' : Shared), Inv X pins σ H s' → RelV v w' → Q w' s') (h2 : valV kvs k = none → ∀ (w' : Value) (s' : Shared), Inv X pins σ (upd H a (.dT (putK kvs k d))) s' → RelV d w' → Q w' s') :
    wpAny (model X.prog X.w) A (call (.builtin "dict.setdefault") [.ref a, .ref b, r]) Q E s := by
  obtain ⟨z, hd, xs, rel, dd⟩ := dt_of I.hok e
  have hz : xs.length ≤ sizeLine := by rw [← Paired.length rel]; exact z
  refine call_setdefault_heap (knd := tupleKind (mixKind X.prog X.w)) (tupleKind_room_in1 hu) (key_of I.hok eb) hd dd (fun p hp => ?_) (fun hn h' dd' hs => ?_) hz
  · have q := rel.val k
    rw [hp] at q
    cases q0 : valV kvs k with
    | none =>
      rw [q0] at q
      exact (show False from q).elim
    | some v0 =>
      rw [q0] at q
      exact h1 v0 q0 _ _ (I.kept (t' := _) fun _ _ z => z) q
  · have q := rel.val k
    rw [hn] at q
    cases q0 : valV kvs k with
    | some v0 =>
      rw [q0] at q
      exact (show False from q).elim
    | none =>
      have hl2 : (putK kvs k d).length ≤ sizeLine := by
        have := length_putK kvs k d
        omega
      obtain ⟨q, es, ep, hq, g2, g3, g4, _, g5⟩ := dd'
      refine h2 q0 _ _ (d_write (t' := _) I (by rw [e]; exact True.intro) hs ⟨q, hq⟩ ⟨hl2, hd, _, (rel.put k eb rd).keeps fun c ys ec => ?_, q, es, ep, hq, g2, g3, g4, g5⟩) rd
      rw [upd_ne (ne_of ec e (fun z => nomatch z))]
      exact ec
end
def SetdR (H : Hp) (a : Addr) (y z : V) (Q : VK) : Prop :=
  (∃ (kvs : List (L2.Key × V)) (k : L2.Key), H a = some (.dK kvs) ∧ y = kV k ∧ kvs.length < sizeLine ∧ (∀ v, valV kvs k = some v → Q v H) ∧ (valV kvs k = none → Q z (upd H a (.dK (putK kvs k z))))) ∨
  ∃ (kvs : List (List L2.Key × V)) (k : List L2.Key) (b : Addr), H a = some (.dT kvs) ∧ y = .ref b ∧ H b = some (.tup (k.map kV)) ∧ kvs.length < sizeLine ∧ (∀ v, valV kvs k = some v → Q v H) ∧ (valV kvs k = none → Q z (upd H a (.dT (putK kvs k z))))
def tDSetdA (td ty tx : TE) : TE := fun σ H Q => td σ H fun x H1 => ∃ a, x = .ref a ∧ IsD H1 a ∧ ty σ H1 fun y H2 => tx σ H2 fun z H3 => SetdR H3 a y z Q
section
variable {X : Cx} {o e f : Expr} {td ty tx : TE} {apos cpos : Pos}
theorem pe_dsetdA (hu : X.A.units + 64 < cLine) (ho : PE X o td) (he : PE X e ty) (hf : PE X f tx) (m : M2 X o "setdefault" apos e f cpos) : PE X (.Call (.Attribute o "setdefault" apos) [e, f] [] cpos) (tDSetdA td ty tx) := by
  refine ⟨fun pins s σ H Q I h => ?_⟩
  refine wpAny_Call_method m.base m.few m.line PySem.F.plainAttrs_dict PySem.F.slot_dict_setdefault PySem.F.type_dict_setdefault (thn (ho.run pins s σ H _ I h) fun u s1 ⟨x, H1, I1, rx, a, ex, d, q1⟩ => ?_)
  subst ex
  obtain rfl : u = Value.ref a := rx
  obtain ⟨t1, t2, _⟩ := isD_at I1 d
  refine ⟨t1, t2, ?_⟩
  rw [m.trees]
  refine Calls.callWith_builtin rfl (Calls.evalArgs_plain (Calls.spliced_cons (thn (he.run pins s1 σ H1 _ I1 q1) fun iv s2 ⟨y, H2, I2, ry, q2⟩ =>
    Calls.spliced_cons (thn (hf.run pins s2 σ H2 _ I2 q2) fun fv s3 ⟨z, H3, I3, rz, q3⟩ => Calls.spliced_nil ?_))))
  rcases q3 with ⟨kvs, k, ea, ey, hl, q3, q4⟩ | ⟨kvs, k, b, ea, ey, eb, hl, q3, q4⟩
  · subst ey
    exact d_setd I3 ea ry rz hl (fun v hv w' s4 I4 rw' => ⟨v, _, I4, rw', q3 v hv⟩) fun hn w' s4 I4 rw' => ⟨z, _, I4, rw', q4 hn⟩
  · subst ey
    cases (show iv = Value.ref b from ry)
    exact d_setdT (by omega) I3 ea eb rz hl (fun v hv w' s4 I4 rw' => ⟨v, _, I4, rw', q3 v hv⟩) fun hn w' s4 I4 rw' => ⟨z, _, I4, rw', q4 hn⟩
def tDNewA : TE := fun _ H Q => (∀ p, H p = none → Q (.ref p) (upd H p (.dK []))) ∨ ∀ p, H p = none → Q (.ref p) (upd H p (.dT []))
theorem pe_dnewA {pos : Pos} : PE X (.Dict [] [] pos) tDNewA := ⟨fun pins s σ H Q I h => by
  rcases h with h | h
  · exact pe_dnewK.run pins s σ H Q I h
  · exact pe_dnewT.run pins s σ H Q I h⟩
end
end Eyes

set_option Elab.async false
set_option linter.all false
set_option maxRecDepth 100000
/-! The parting by keys: each case gets the first case with an equal key. -/
namespace Eyes
open PySem PySem.Spec PyProof.Rows L2
section
variable {α β : Type} [DecidableEq α] [DecidableEq β]
def firsts (ks : List α) : List Nat := ks.map fun k => ks.idxOf k + 1
theorem firsts_len {ks : List α} : (firsts ks).length = ks.length := List.length_map ..
theorem firsts_itm {ks : List α} {x : Nat} {k : α} (h1 : 1 ≤ x) (h : ks[x - 1]? = some k) : itm (firsts ks) x = ks.idxOf k + 1 := by
  unfold itm firsts
  rw [List.getD_eq_getElem?_getD, List.getElem?_map, h]
  rfl
theorem idx_le {ks : List α} {i : Nat} {k : α} (h : ks[i]? = some k) : ks.idxOf k ≤ i := by
  induction ks generalizing i with
  | nil => cases h
  | cons a l ih =>
    rw [List.idxOf_cons]
    by_cases g : a = k
    · rw [show (a == k) = true by simpa using g]
      exact Nat.zero_le _
    · rw [show (a == k) = false by simpa using g]
      cases i with
      | zero => exact absurd (Option.some.inj h) g
      | succ i =>
        have := ih (i := i) h
        simp only [cond_false]
        omega
theorem idx_get {ks : List α} {k : α} (h : k ∈ ks) : ks[ks.idxOf k]? = some k := by
  induction ks with
  | nil => cases h
  | cons a l ih =>
    rw [List.idxOf_cons]
    by_cases g : a = k
    · rw [show (a == k) = true by simpa using g]
      exact congrArg some g
    · rw [show (a == k) = false by simpa using g]
      simp only [cond_false]
      rw [List.getElem?_cons_succ]
      exact ih ((List.mem_cons.mp h).resolve_left fun e => g e.symm)
theorem isP_firsts (ks : List α) : IsP ks.length (firsts ks) := by
  refine ⟨firsts_len, fun x h1 h2 => ?_, fun x h1 h2 => ?_⟩
  · have h : ks[x - 1]? = some (ks[x - 1]'(by omega)) := List.getElem?_eq_getElem _
    rw [firsts_itm h1 h]
    have := idx_le h
    omega
  · have h : ks[x - 1]? = some (ks[x - 1]'(by omega)) := List.getElem?_eq_getElem _
    rw [firsts_itm h1 h]
    refine firsts_itm (by omega) ?_
    rw [Nat.add_sub_cancel]
    exact idx_get (List.mem_of_getElem? h)
theorem firsts_ali {ks : List α} {x y : Nat} {j k : α} (h1 : 1 ≤ x) (h2 : 1 ≤ y) (hx : ks[x - 1]? = some j) (hy : ks[y - 1]? = some k) : ali (firsts ks) x y ↔ j = k := by
  unfold ali
  rw [firsts_itm h1 hx, firsts_itm h2 hy]
  refine ⟨fun e => ?_, fun e => by rw [e]⟩
  have a := idx_get (List.mem_of_getElem? hx)
  have b := idx_get (List.mem_of_getElem? hy)
  rw [show ks.idxOf j = ks.idxOf k by omega, b] at a
  exact (Option.some.inj a).symm
theorem firsts_same {ks : List α} {ls : List β} (hl : ks.length = ls.length) (h : ∀ (i j : Nat) a b c d, ks[i]? = some a → ks[j]? = some b → ls[i]? = some c → ls[j]? = some d → (a = b ↔ c = d)) : firsts ks = firsts ls := by
  have hp := isP_firsts ks
  have hq := isP_firsts ls
  rw [← hl] at hq
  refine isP_ext hp hq fun x y h1 h2 h3 h4 => ?_
  have e1 : ks[x - 1]? = some (ks[x - 1]'(by omega)) := List.getElem?_eq_getElem _
  have e2 : ks[y - 1]? = some (ks[y - 1]'(by omega)) := List.getElem?_eq_getElem _
  have e3 : ls[x - 1]? = some (ls[x - 1]'(by omega)) := List.getElem?_eq_getElem _
  have e4 : ls[y - 1]? = some (ls[y - 1]'(by omega)) := List.getElem?_eq_getElem _
  rw [firsts_ali h1 h3 e1 e2, firsts_ali h1 h3 e3 e4]
  exact h _ _ _ _ _ _ e1 e2 e3 e4
end
def keysN (n : Nat) (ps : List (List Nat)) : List (List Nat) := (List.range n).map fun k => ps.map fun p => itm p (k + 1)
def metN (n : Nat) (ps : List (List Nat)) : List Nat := firsts (keysN n ps)
theorem keysN_len {n : Nat} {ps : List (List Nat)} : (keysN n ps).length = n := by
  unfold keysN
  rw [List.length_map, List.length_range]
theorem keysN_get {n : Nat} {ps : List (List Nat)} {x : Nat} (h1 : 1 ≤ x) (h2 : x ≤ n) : (keysN n ps)[x - 1]? = some (ps.map fun p => itm p x) := by
  unfold keysN
  rw [List.getElem?_map, List.getElem?_range (by omega)]
  show some (ps.map fun p => itm p (x - 1 + 1)) = _
  rw [show x - 1 + 1 = x by omega]
theorem metN_isP (n : Nat) (ps : List (List Nat)) : IsP n (metN n ps) := by
  have h := isP_firsts (keysN n ps)
  rw [keysN_len] at h
  exact h
theorem metN_ali {n : Nat} {ps : List (List Nat)} {x y : Nat} (h1 : 1 ≤ x) (h2 : x ≤ n) (h3 : 1 ≤ y) (h4 : y ≤ n) : ali (metN n ps) x y ↔ ∀ p ∈ ps, ali p x y := by
  unfold metN
  rw [firsts_ali h1 h3 (keysN_get h1 h2) (keysN_get h3 h4)]
  unfold ali
  exact List.map_inj_left
end Eyes

set_option Elab.async false
set_option linter.all false
set_option maxRecDepth 100000
set_option maxHeartbeats 4000000
namespace Eyes
open PySem PySem.Spec PyProof.Rows L2 Evl TL
/-! ### by keys -/
section
variable {κ : Type} [DecidableEq κ]
def fstOf (ks : List κ) (k : κ) : Nat := ks.idxOf k + 1
structure Fsts (ks : List κ) (i : Nat) (kvs : List (κ × V)) : Prop where
  len : kvs.length ≤ i
  val : ∀ k, valV kvs k = if k ∈ ks.take i then some (.int ((fstOf ks k : Nat) : Int)) else none
theorem Fsts.zero (ks : List κ) : Fsts ks 0 ([] : List (κ × V)) := ⟨Nat.le_refl _, fun k => by rw [List.take_zero, if_neg (fun h => by cases h)]; rfl⟩
theorem mem_take_succ {ks : List κ} {i : Nat} {k j : κ} (h : ks[i]? = some k) : j ∈ ks.take (i + 1) ↔ j ∈ ks.take i ∨ j = k := by
  rw [List.take_add_one, h, List.mem_append]
  exact or_congr Iff.rfl List.mem_singleton
theorem Fsts.has {ks : List κ} {i : Nat} {kvs : List (κ × V)} {k : κ} {v : V} (F : Fsts ks i kvs) (h : ks[i]? = some k) (hv : valV kvs k = some v) : v = .int ((fstOf ks k : Nat) : Int) ∧ Fsts ks (i + 1) kvs := by
  rw [F.val k] at hv
  by_cases g : k ∈ ks.take i
  · rw [if_pos g] at hv
    refine ⟨(Option.some.inj hv).symm, Nat.le_succ_of_le F.len, fun j => ?_⟩
    rw [F.val j]
    by_cases e : j ∈ ks.take i
    · rw [if_pos e, if_pos ((mem_take_succ h).mpr (.inl e))]
    · rw [if_neg e, if_neg fun z => by
        rcases (mem_take_succ h).mp z with z | z
        · exact e z
        · rw [z] at e
          exact e g]
  · rw [if_neg g] at hv
    cases hv
theorem idx_new {ks : List κ} {i : Nat} {k : κ} (h : ks[i]? = some k) (g : k ∉ ks.take i) : ks.idxOf k = i := by
  have a := idx_le h
  have b := idx_get (List.mem_of_getElem? h)
  rcases Nat.lt_or_ge (ks.idxOf k) i with c | c
  · refine absurd ?_ g
    refine List.mem_of_getElem? (i := ks.idxOf k) ?_
    rw [List.getElem?_take_of_lt c]
    exact b
  · omega
theorem Fsts.new {ks : List κ} {i : Nat} {kvs : List (κ × V)} {k : κ} (F : Fsts ks i kvs) (h : ks[i]? = some k) (hv : valV kvs k = none) : fstOf ks k = i + 1 ∧ Fsts ks (i + 1) (putK kvs k (.int ((i + 1 : Nat) : Int))) := by
  rw [F.val k] at hv
  by_cases g : k ∈ ks.take i
  · rw [if_pos g] at hv
    cases hv
  · have hi : fstOf ks k = i + 1 := congrArg (· + 1) (idx_new h g)
    refine ⟨hi, ?_, fun j => ?_⟩
    · have := length_putK kvs k (.int ((i + 1 : Nat) : Int))
      have := F.len
      omega
    · rw [valV_put, F.val j]
      by_cases e : j = k
      · rw [if_pos e, if_pos ((mem_take_succ h).mpr (.inr e)), e, hi]
      · rw [if_neg e]
        by_cases c : j ∈ ks.take i
        · rw [if_pos c, if_pos ((mem_take_succ h).mpr (.inl c))]
        · rw [if_neg c, if_neg fun z => ((mem_take_succ h).mp z).elim c e]
theorem firsts_get {ks : List κ} {i : Nat} {k : κ} (h : ks[i]? = some k) : (firsts ks)[i]? = some (fstOf ks k) := by
  unfold firsts
  rw [List.getElem?_map, h]
  rfl
end
def spKeysT (K : PySem.W.Frag) : Sp := fun vs H Q _ => ∃ (a : Addr) (us : List V) (ks : List (List L2.Key)), vs = [.ref a] ∧ SqL K H a us ∧ us.length = ks.length ∧ ks.length ≤ 4096 ∧ (∀ (i : Nat) (u : V) (k : List L2.Key), us[i]? = some u → ks[i]? = some k → ∃ b, u = .ref b ∧ H b = some (.tup (k.map kV))) ∧ ∀ r H', Ex H H' → H r = none → H' r = some (.tup (nvs (firsts ks))) → Q (.ref r) H'
def spKeysI (K : PySem.W.Frag) : Sp := fun vs H Q _ => ∃ (a : Addr) (us : List V) (ks : List L2.Key), vs = [.ref a] ∧ SqL K H a us ∧ us.length = ks.length ∧ ks.length ≤ 4096 ∧ (∀ (i : Nat) (u : V) (k : L2.Key), us[i]? = some u → ks[i]? = some k → u = kV k) ∧ ∀ r H', Ex H H' → H r = none → H' r = some (.tup (nvs (firsts ks))) → Q (.ref r) H'
section
variable {P : Program} {w : World} {K : PySem.W.Frag} {mg : Str → Option Value} {base : Heap} {AA : Adr}
theorem ok_by_keys (T : Txt K mg AA) : Pr P w K mg base "by_keys" s_by_keys p_by_keys 1 (spKeysT K) := by
  refine pr_mk T.f_by_keys sc_by_keys (fun vs H Q E h => ?_) (fun f cdv A outer s H vs Q E hr h => ?_)
  · obtain ⟨a, us, ks, rfl, _⟩ := h
    rfl
  · obtain ⟨a, us, ks, rfl, ha, hl, hn, hk, q⟩ := h
    refine ⟨_, (pss_cons (ps_set (i := 1) sc_by_keys.nd rfl (.inl rfl) pe_dnewA)
      (pss_cons (ps_set (i := 2) sc_by_keys.nd rfl (.inl rfl) (pe_lst pa_nil))
      (pss_cons (ps_for PassesOwn.never rfl (pi_enumLSK (K := K) rfl (by rfl) T.n_enumerate (pa_cons (pv 0) pa_nil) (pk_cons pe_int pk_nil)) (pg_tup (by rfl) (pgs_cons (pg_name (i := 3) sc_by_keys.nd rfl (.inl rfl)) (pgs_cons (pg_name (i := 4) sc_by_keys.nd rfl (.inl rfl)) pgs_nil)))
      (pss_one (ps_expr (pe_bm PySem.F.plainAttrs_list PySem.F.slot_list_append PySem.F.type_list_append mt_append (pv 2) (pa_cons (pe_dsetdA hr.units (pv 1) (pv 4) (pv 3) ⟨by rfl, by rfl, by rfl, by rfl⟩) pa_nil)))))
      (pss_one (ps_ret (pe_callTy call_tuple_of (by rfl) T.n_tuple PyProof.Rows.boot_tuple (pa_cons (pv 2) pa_nil))))))), ?_⟩
    refine .inr fun D nD => ?_
    refine ⟨by show 0 ≤ sizeLine; decide, fun F nF => ?_⟩
    have hDF : D ≠ F := ne_of_none upd_same nF
    have nF0 : H F = none := fresh_back (Ex.new nD) nF
    refine ⟨_, rfl, a, 1, us, rfl, rfl, by omega, by omega, ex_l ((Ex.new nD).trans (Ex.new nF)) ha, ?_⟩
    refine for_it (walk_enumL (xs := us)) (fun i σ H' => ∃ (y3 y4 : Option V) (kvs : List (List L2.Key × V)), σ = [some (.ref a), some (.ref D), some (.ref F), y3, y4] ∧ Ex H H' ∧ H' D = some (.dT kvs) ∧ Fsts ks i kvs ∧ H' F = some (.lst (nvs ((firsts ks).take i)))) ⟨none, none, [], rfl, (Ex.new nD).trans (Ex.new nF), (upd_ne hDF).trans upd_same, Fsts.zero ks, upd_same⟩ (fun i σ H' _ hp => ?_) (fun i v σ H1 H2 hi hp hy => ?_) (fun σ H' hp => ?_)
    · obtain ⟨_, _, _, rfl, e, _⟩ := hp
      exact ex_l e ha
    · obtain ⟨y3, y4, kvs, rfl, e, hD, hF, hfd⟩ := hp
      obtain ⟨T1, u1, u2, rfl, hT, rfl, g1, g2⟩ := hy
      have hki : ks[i]? = some (ks[i]'(by omega)) := List.getElem?_eq_getElem _
      generalize ks[i]'(by omega) = k at hki
      obtain ⟨b, rfl, hb⟩ := hk i u2 k g2 hki
      have z1 : (1 : Int) + (i : Int) = ((i + 1 : Nat) : Int) := by omega
      obtain rfl : V.int ((i + 1 : Nat) : Int) = u1 := by
        rw [← z1]
        exact Option.some.inj g1
      have e2 : Ex H1 (upd H1 T1 (.tup [.int ((i + 1 : Nat) : Int), .ref b])) := Ex.new hT
      have htk : (firsts ks).take (i + 1) = (firsts ks).take i ++ [fstOf ks k] := by
        rw [List.take_add_one, firsts_get hki]
        rfl
      have hfl : (nvs ((firsts ks).take i)).length < sizeLine := by
        rw [nvs_len, List.length_take, firsts_len]
        have : 4097 < sizeLine := by decide
        omega
      refine ⟨T1, _, rfl, st_of upd_same, rfl, _, _, rfl, _, _, rfl, rfl, ?_⟩
      refine ⟨_, rfl, .inl ⟨rfl, _, sq_of (e2 _ _ hfd)⟩, _, rfl, D, rfl, .inr ⟨_, .inl (e2 _ _ hD)⟩, _, rfl, _, rfl, .inr ⟨kvs, k, b, e2 _ _ hD, rfl, e2 _ _ (e _ _ hb), ?_, fun v hv => ?_, fun hv => ?_⟩⟩
      · have := hF.len
        have : 4097 < sizeLine := by decide
        omega
      · obtain ⟨rfl, hF2⟩ := hF.has hki hv
        refine ⟨F, _, _, rfl, rfl, e2 _ _ hfd, hfl, _, _, kvs, rfl, (e.trans e2).mut nF0, (upd_ne hDF).trans (e2 _ _ hD), hF2, ?_⟩
        rw [upd_same, htk]
        unfold nvs
        rw [List.map_append]
        rfl
      · obtain ⟨hidx, hF2⟩ := hF.new hki hv
        refine ⟨F, _, _, rfl, rfl, (upd_ne hDF.symm).trans (e2 _ _ hfd), hfl, _, _, _, rfl, ((e.trans e2).mut nD).mut nF0, (upd_ne hDF).trans upd_same, hF2, ?_⟩
        rw [upd_same, htk, hidx]
        unfold nvs
        rw [List.map_append]
        rfl
    · obtain ⟨y3, y4, kvs, rfl, e, hD, hF, hfd⟩ := hp
      rw [hl, List.take_of_length_le (by rw [firsts_len]; exact Nat.le_refl _)] at hfd
      exact ⟨_, rfl, F, _, rfl, .inl ⟨sq_of hfd, fun r nr => q r _ (e.trans (Ex.new nr)) (fresh_back e nr) upd_same⟩⟩
end
end Eyes

set_option Elab.async false
set_option linter.all false
set_option maxRecDepth 100000
set_option maxHeartbeats 4000000
/-! (x, ..) * 1 is the tuple itself. -/
namespace Eyes
open PySem PySem.Spec PyProof.Rows L2
def rRep1 (K : PySem.W.Frag) : R2 := fun x y H Q => ∃ l xs, x = .ref l ∧ y = .int 1 ∧ SqT K H l xs ∧ Q (.ref l) H
section
variable {X : Cx}
theorem call_tuple_ofK {K : PySem.W.Frag} (hK : X.K = K) : CallR X (.type "tuple") (fun xs H Q => ∃ p ys, xs = [V.ref p] ∧ ((SqL K H p ys ∧ ∀ (l : Addr), H l = none → Q (V.ref l) (upd H l (HO.tup ys))) ∨ SqT K H p ys ∧ Q (V.ref p) H)) := hK ▸ call_tuple_of
end
end Eyes

set_option Elab.async false
set_option linter.all false
set_option maxRecDepth 100000
set_option maxHeartbeats 4000000
namespace Eyes
open PySem PySem.Spec PyProof.Rows L2 Evl TL
/-! ### lots -/
def rootsN (p : List Nat) (i : Nat) : List Nat := (alone i).filter fun x => decide (itm p x = x)
def cellN (p : List Nat) (i r : Nat) : List Nat := (alone i).filter fun x => decide (itm p x = r)
def lotsN (p : List Nat) (n : Nat) : List (List Nat) := (rootsN p n).map (cellN p n)
theorem alone_succ (i : Nat) : alone (i + 1) = alone i ++ [i + 1] := by
  unfold alone
  rw [List.range_succ, List.map_append]
  rfl
theorem alone_mem {i x : Nat} : x ∈ alone i ↔ 1 ≤ x ∧ x ≤ i := by
  unfold alone
  rw [List.mem_map]
  constructor
  · rintro ⟨k, hk, rfl⟩
    have := List.mem_range.mp hk
    omega
  · intro h
    exact ⟨x - 1, List.mem_range.mpr (by omega), by omega⟩
theorem roots_mem {p : List Nat} {i x : Nat} : x ∈ rootsN p i ↔ (1 ≤ x ∧ x ≤ i) ∧ itm p x = x := by
  unfold rootsN
  rw [List.mem_filter, alone_mem, decide_eq_true_iff]
theorem alone_nodup (i : Nat) : (alone i).Nodup := by
  induction i with
  | zero => exact List.nodup_nil
  | succ i ih =>
    rw [alone_succ]
    refine List.nodup_append.mpr ⟨ih, by simp, fun a ha b hb e => ?_⟩
    rw [List.mem_singleton.mp hb] at e
    have := alone_mem.mp ha
    omega
theorem roots_nodup (p : List Nat) (i : Nat) : (rootsN p i).Nodup := (alone_nodup i).filter _
theorem cell_same {p : List Nat} {i r : Nat} (h : itm p (i + 1) ≠ r) : cellN p (i + 1) r = cellN p i r := by
  unfold cellN
  rw [alone_succ, List.filter_append, List.filter_cons, if_neg (by simpa using h)]
  exact List.append_nil _
theorem cell_more {p : List Nat} {i : Nat} : cellN p (i + 1) (itm p (i + 1)) = cellN p i (itm p (i + 1)) ++ [i + 1] := by
  unfold cellN
  rw [alone_succ, List.filter_append, List.filter_cons, if_pos (by simp)]
  rfl
theorem cell_none {p : List Nat} {i r : Nat} (h : ∀ x, 1 ≤ x → x ≤ i → itm p x ≠ r) : cellN p i r = [] := by
  unfold cellN
  rw [List.filter_eq_nil_iff]
  intro x hx
  obtain ⟨h1, h2⟩ := alone_mem.mp hx
  simpa using h x h1 h2
theorem cell_len {p : List Nat} {i r : Nat} : (cellN p i r).length ≤ i := by
  unfold cellN
  refine Nat.le_trans (List.length_filter_le ..) ?_
  rw [alone_len]
  exact Nat.le_refl _
theorem roots_len {p : List Nat} {i : Nat} : (rootsN p i).length ≤ i := by
  unfold rootsN
  refine Nat.le_trans (List.length_filter_le ..) ?_
  rw [alone_len]
  exact Nat.le_refl _
theorem roots_same {p : List Nat} {i : Nat} (h : itm p (i + 1) ≠ i + 1) : rootsN p (i + 1) = rootsN p i := by
  unfold rootsN
  rw [alone_succ, List.filter_append, List.filter_cons, if_neg (by simpa using h)]
  exact List.append_nil _
theorem roots_more {p : List Nat} {i : Nat} (h : itm p (i + 1) = i + 1) : rootsN p (i + 1) = rootsN p i ++ [i + 1] := by
  unfold rootsN
  rw [alone_succ, List.filter_append, List.filter_cons, if_pos (by simpa using h)]
  rfl
def tabN (rs : List Nat) (bs : List Addr) : List (L2.Key × V) := (rs.zip bs).map fun p => (Sum.inl (p.1 : Int), V.ref p.2)
theorem tab_none : ∀ {rs : List Nat} {bs : List Addr} {r : Nat}, r ∉ rs → valV (tabN rs bs) (Sum.inl (r : Int)) = none
  | [], _, _, _ => rfl
  | _ :: _, [], _, _ => rfl
  | a :: rs, b :: bs, r, h => by
    show valV ((Sum.inl (a : Int), V.ref b) :: tabN rs bs) _ = none
    rw [valV_neg (p := (Sum.inl (a : Int), V.ref b)) (fun e => h (by
      injection e with e
      have : a = r := by omega
      rw [this]
      exact List.mem_cons_self))]
    exact tab_none fun z => h (List.mem_cons_of_mem _ z)
theorem tab_some : ∀ {rs : List Nat} {bs : List Addr} {r : Nat}, bs.length = rs.length → r ∈ rs → ∃ (j : Nat) (b : Addr), rs[j]? = some r ∧ bs[j]? = some b ∧ valV (tabN rs bs) (Sum.inl (r : Int)) = some (.ref b)
  | a :: rs, [], r, hl, _ => by cases hl
  | a :: rs, b :: bs, r, hl, h => by
    by_cases e : a = r
    · subst e
      exact ⟨0, b, rfl, rfl, valV_pos (p := (Sum.inl (a : Int), V.ref b)) rfl⟩
    · obtain ⟨j, c, h1, h2, h3⟩ := tab_some (rs := rs) (bs := bs) (r := r) (by simpa using hl) ((List.mem_cons.mp h).resolve_left fun z => e z.symm)
      refine ⟨j + 1, c, h1, h2, ?_⟩
      show valV ((Sum.inl (a : Int), V.ref b) :: tabN rs bs) _ = _
      rw [valV_neg (p := (Sum.inl (a : Int), V.ref b)) (fun z => e (by injection z with z; omega))]
      exact h3
theorem tab_len {rs : List Nat} {bs : List Addr} (h : bs.length = rs.length) : (tabN rs bs).length = rs.length := by
  unfold tabN
  rw [List.length_map, List.length_zip]
  omega
theorem tab_snoc {rs : List Nat} {bs : List Addr} {r : Nat} {b : Addr} (h : bs.length = rs.length) : tabN (rs ++ [r]) (bs ++ [b]) = tabN rs bs ++ [(Sum.inl (r : Int), V.ref b)] := by
  unfold tabN
  rw [List.zip_append h.symm, List.map_append]
  rfl
def Rws (H : Hp) (us : List V) (l : List (List Nat)) : Prop := us.length = l.length ∧ ∀ (i : Nat) u, us[i]? = some u → ∃ t c, u = .ref t ∧ l[i]? = some c ∧ H t = some (.tup (nvs c))
def spLots (K : PySem.W.Frag) : Sp := fun vs H Q _ => ∃ (n : Nat) (a : Addr) (p : List Nat), vs = [.ref a] ∧ SqT K H a (nvs p) ∧ IsP n p ∧ n ≤ 4096 ∧ ∀ r us H', Ex H H' → H r = none → H' r = some (.lst us) → Rws H' us (lotsN p n) → Q (.ref r) H'
structure Lt (p : List Nat) (D : Addr) (i : Nat) (bs : List Addr) (H H' : Hp) : Prop where
  len : bs.length = (rootsN p i).length
  nd : bs.Nodup
  tab : H' D = some (.dK (tabN (rootsN p i) bs))
  at_ : ∀ (j : Nat) (r : Nat) (b : Addr), (rootsN p i)[j]? = some r → bs[j]? = some b → H' b = some (.lst (nvs (cellN p i r))) ∧ H b = none ∧ b ≠ D
section
variable {P : Program} {w : World} {K : PySem.W.Frag} {mg : Str → Option Value} {base : Heap} {AA : Adr}
theorem ok_lots_of (T : Txt K mg AA) : Pr P w K mg base "lots_of" s_lots_of p_lots_of 1 (spLots K) := by
  refine pr_mk T.f_lots_of sc_lots_of (fun vs H Q E h => ?_) (fun f cdv A outer s H vs Q E hr h => ?_)
  · obtain ⟨n, a, p, rfl, _⟩ := h
    rfl
  · obtain ⟨n, a, p, rfl, ha, hP, hn, q⟩ := h
    refine ⟨_, (pss_cons (ps_set (i := 1) sc_lots_of.nd rfl (.inl rfl) pe_dnewK)
      (pss_cons (ps_for PassesOwn.never rfl (pi_enumTSK (K := K) rfl (by rfl) T.n_enumerate (pa_cons (pv 0) pa_nil) (pk_cons pe_int pk_nil)) (pg_tup (by rfl) (pgs_cons (pg_name (i := 2) sc_lots_of.nd rfl (.inl rfl)) (pgs_cons (pg_name (i := 3) sc_lots_of.nd rfl (.inl rfl)) pgs_nil)))
      (pss_one (ps_expr (pe_bm PySem.F.plainAttrs_list PySem.F.slot_list_append PySem.F.type_list_append mt_append (pe_dsetdA hr.units (pv 1) (pv 3) (pe_lst pa_nil) ⟨by rfl, by rfl, by rfl, by rfl⟩) (pa_cons (pv 2) pa_nil)))))
      (pss_one (ps_ret (pe_lock (pe_lc (own := [("lot", 4)]) (g := gName 4) (tt := tYes) rfl sc_lots_of.nd (pi_values (pv 1)) (blkOk_by (own := [("lot", 4)]) (N := n_lots_of) (sc := defScope s_lots_of) (by decide +kernel)) (fun _ _ _ _ _ => (pg_name (i := 4) sc_lots_of.nd rfl (.inl rfl))) (fun _ _ _ _ _ => pts_nil) (fun _ _ _ _ _ => (pe_callTy (call_tuple_ofK (K := K) rfl) (by rfl) T.n_tuple PyProof.Rows.boot_tuple (pa_cons (pv 4) pa_nil))))))))), ?_⟩
    refine fun D nD => ?_
    have e0 : Ex H (upd H D (.dK [])) := Ex.new nD
    refine ⟨_, rfl, a, 1, nvs p, rfl, rfl, by omega, by omega, ex_t e0 ha, ?_⟩
    refine for_it (walk_enumT (k := 1) (xs := nvs p)) (fun i σ H' => ∃ y2 y3 bs, σ = [some (.ref a), some (.ref D), y2, y3, none] ∧ Ex H H' ∧ Lt p D i bs H H') ⟨none, none, [], rfl, e0, rfl, List.nodup_nil, upd_same, fun j r b h => by cases h⟩ (fun i σ H' _ hp => ?_) (fun i v σ H1 H2 hi hp hy => ?_) (fun σ H' hp => ?_)
    · obtain ⟨_, _, _, _, e, _⟩ := hp
      exact ex_t e ha
    · obtain ⟨y2, y3, bs, rfl, e, L⟩ := hp
      obtain ⟨T1, u1, u2, rfl, hT, rfl, g1, g2⟩ := hy
      rw [nvs_len, hP.len] at hi
      obtain rfl : u2 = .int (itm p (i + 1) : Nat) := Option.some.inj (g2.symm.trans (nvs_get (itm_get (x := i + 1) (by omega) (by rw [hP.len]; omega))))
      obtain rfl : V.int (1 + (i : Int)) = u1 := Option.some.inj g1
      have z1 : (1 : Int) + (i : Int) = ((i + 1 : Nat) : Int) := by omega
      rw [z1]
      have lo := hP.lo (i + 1) (by omega) (by omega)
      have rt := hP.rt (i + 1) (by omega) (by omega)
      have x1 : Ex H1 (upd H1 T1 (.tup [.int ((i + 1 : Nat) : Int), .int (itm p (i + 1) : Nat)])) := Ex.new hT
      refine ⟨T1, _, rfl, st_of upd_same, rfl, _, _, rfl, _, _, rfl, rfl, ?_⟩
      generalize upd H1 T1 _ = H3 at x1 ⊢
      have hD3 := x1 _ _ L.tab
      refine ⟨_, rfl, D, rfl, .inl ⟨_, .inl hD3⟩, _, rfl, by show 0 ≤ sizeLine; decide, fun nb hnb => ?_⟩
      have x2 : Ex H3 (upd H3 nb (.lst [])) := Ex.new hnb
      have hD4 := x2 _ _ hD3
      have e4 := (e.trans x1).trans x2
      have nbH : H nb = none := fresh_back (e.trans x1) hnb
      have nbD : nb ≠ D := fun z => by
        rw [z, hD3] at hnb
        cases hnb
      have tl := tab_len L.len
      have rl := roots_len (p := p) (i := i)
      refine .inl ⟨_, Sum.inl (itm p (i + 1) : Int), hD4, rfl, ?_, fun v hv => ?_, fun hv => ?_⟩
      · rw [tl]
        have : 4097 < sizeLine := by decide
        omega
      · by_cases hr : itm p (i + 1) ∈ rootsN p i
        · obtain ⟨j, b, hj, hb, hv2⟩ := tab_some L.len hr
          rw [hv2] at hv
          obtain rfl := Option.some.inj hv
          obtain ⟨c1, c2, c3⟩ := L.at_ j _ b hj hb
          have c4 := x2 _ _ (x1 _ _ c1)
          have ne : itm p (i + 1) ≠ i + 1 := fun z => by
            have := (roots_mem.mp hr).1
            omega
          refine ⟨.inl ⟨rfl, _, sq_of c4⟩, _, rfl, b, _, _, rfl, rfl, c4, ?_, _, _, bs, rfl, e4.mut c2, ?_⟩
          · rw [nvs_len]
            have := cell_len (p := p) (i := i) (r := itm p (i + 1))
            have : 4097 < sizeLine := by decide
            omega
          · refine ⟨by rw [roots_same ne]; exact L.len, L.nd, ?_, fun j2 r2 b2 hj2 hb2 => ?_⟩
            · rw [roots_same ne, upd_ne (fun z => c3 z.symm)]
              exact hD4
            · rw [roots_same ne] at hj2
              obtain ⟨d1, d2, d3⟩ := L.at_ j2 r2 b2 hj2 hb2
              refine ⟨?_, d2, d3⟩
              by_cases hjj : j2 = j
              · subst hjj
                rw [hj] at hj2
                rw [hb] at hb2
                cases hj2
                cases hb2
                rw [upd_same, cell_more]
                unfold nvs
                rw [List.map_append]
                rfl
              · have hbb : b2 ≠ b := fun z => by
                  subst z
                  exact hjj ((List.getElem?_inj (List.getElem?_eq_some_iff.mp hb2).1 L.nd).mp (hb2.trans hb.symm))
                have hrr : itm p (i + 1) ≠ r2 := fun z => by
                  subst z
                  exact hjj ((List.getElem?_inj (List.getElem?_eq_some_iff.mp hj2).1 (roots_nodup p i)).mp (hj2.trans hj.symm))
                rw [upd_ne hbb, cell_same hrr]
                exact x2 _ _ (x1 _ _ d1)
        · rw [tab_none hr] at hv
          cases hv
      · have hr : itm p (i + 1) ∉ rootsN p i := fun hr => by
          obtain ⟨j, b, _, _, hv2⟩ := tab_some L.len hr
          rw [hv2] at hv
          cases hv
        have eq1 : itm p (i + 1) = i + 1 := by
          by_cases z : itm p (i + 1) ≤ i
          · exact absurd (roots_mem.mpr ⟨⟨lo.1, z⟩, rt⟩) hr
          · omega
        rw [putK_new _ hv]
        have hcell : cellN p (i + 1) (i + 1) = [i + 1] := by
          have h1 := cell_more (p := p) (i := i)
          have h0 : cellN p i (i + 1) = [] := cell_none fun x q1 q2 z => by
            have := (hP.lo x q1 (by omega)).2
            omega
          rw [eq1, h0] at h1
          exact h1
        have h5 : ∀ {ob}, (upd (upd H3 nb (.lst [])) D ob) nb = some (.lst []) := (upd_ne nbD).trans upd_same
        refine ⟨.inl ⟨rfl, _, sq_of h5⟩, _, rfl, nb, _, _, rfl, rfl, h5, by show 0 < sizeLine; decide, _, _, bs ++ [nb], rfl, (e4.mut nD).mut nbH, ?_⟩
        refine ⟨by rw [roots_more eq1, List.length_append, List.length_append, L.len]; rfl, ?_, ?_, fun j2 r2 b2 hj2 hb2 => ?_⟩
        · refine List.nodup_append.mpr ⟨L.nd, by simp, fun x hx y hy z => ?_⟩
          rw [List.mem_singleton.mp hy] at z
          subst z
          obtain ⟨j, hj⟩ := List.getElem?_of_mem hx
          have hjl := (List.getElem?_eq_some_iff.mp hj).1
          have d1 := (L.at_ j _ _ (List.getElem?_eq_getElem (by rw [← L.len]; exact hjl)) hj).1
          rw [x1 _ _ d1] at hnb
          cases hnb
        · rw [upd_ne (fun z => nbD z.symm), upd_same, roots_more eq1, tab_snoc L.len, eq1]
        · rw [roots_more eq1] at hj2
          by_cases hjl : j2 < bs.length
          · rw [List.getElem?_append_left hjl] at hb2
            rw [List.getElem?_append_left (by rw [← L.len]; exact hjl)] at hj2
            obtain ⟨d1, d2, d3⟩ := L.at_ j2 r2 b2 hj2 hb2
            have hbb : b2 ≠ nb := fun z => by
              rw [z] at d1
              rw [x1 _ _ d1] at hnb
              cases hnb
            have hrr : itm p (i + 1) ≠ r2 := fun z => by
              have := (roots_mem.mp (List.mem_of_getElem? hj2)).1
              omega
            refine ⟨?_, d2, d3⟩
            rw [upd_ne hbb, upd_ne d3, cell_same hrr]
            exact x2 _ _ (x1 _ _ d1)
          · have l1 := (List.getElem?_eq_some_iff.mp hb2).1
            rw [List.length_append] at l1
            have l2 : j2 = bs.length := by
              simp at l1
              omega
            subst l2
            rw [List.getElem?_append_right (Nat.le_refl _), Nat.sub_self] at hb2
            rw [List.getElem?_append_right (by rw [L.len]; exact Nat.le_refl _), L.len, Nat.sub_self] at hj2
            cases hb2
            cases hj2
            refine ⟨?_, nbH, nbD⟩
            rw [upd_same, hcell]
            rfl
    · obtain ⟨y2, y3, bs, rfl, e, L⟩ := hp
      rw [nvs_len, hP.len] at L
      refine ⟨D, _, L.tab, trivial, fun od => ?_⟩
      have tl := tab_len L.len
      have rl := roots_len (p := p) (i := n)
      have lt : 4097 < sizeLine := by decide
      refine ⟨_, rfl, D, od, _, rfl, upd_same, fun R nR => ?_⟩
      have nRD : R ≠ D := fun z => by
        rw [z, upd_same] at nR
        cases nR
      have nR0 : H R = none := fresh_back e (by rw [← nR, upd_ne nRD])
      refine lc_it walk_values (fun i H6 => Ex (upd H' D (.frz od (.dK (tabN (rootsN p n) bs)))) H6 ∧ ∃ us, H6 R = some (.lst us) ∧ us.length = i ∧ Rws H6 us (((rootsN p n).take i).map (cellN p n))) ⟨Ex.new nR, [], upd_same, rfl, rfl, fun i u hu => by cases hu⟩ (fun i H6 _ hp => hp.1 _ _ upd_same) (fun i v H6 H7 hi hp hy => ?_) (fun H6 hp => ?_)
      · obtain ⟨e6, us, h6, hl6, hr6⟩ := hp
        obtain ⟨rfl, k, hk⟩ := hy
        rw [tl] at hi
        unfold tabN at hk
        rw [List.getElem?_map] at hk
        obtain ⟨⟨r, b⟩, hrb, hk⟩ := Option.map_eq_some_iff.mp hk
        cases hk
        obtain ⟨hr, hb⟩ := List.getElem?_zip_eq_some.mp hrb
        obtain ⟨d1, d2, d3⟩ := L.at_ i r b hr hb
        have d4 := e6 _ _ ((upd_ne d3).trans d1)
        refine ⟨rfl, _, rfl, b, _, rfl, .inl ⟨sq_of d4, fun t nt => ?_⟩⟩
        have x7 := Ex.new (o := .tup (nvs (cellN p n r))) nt
        have nRt : R ≠ t := fun z => by
          rw [← z, h6] at nt
          cases nt
        refine ⟨us, x7 _ _ h6, by omega, (e6.trans x7).mut nR, us ++ [.ref t], upd_same, by rw [List.length_append, hl6]; rfl, ?_, fun j u hj => ?_⟩
        · rw [List.length_append, List.length_map, List.length_take, hl6]
          show i + 1 = _
          omega
        · by_cases hji : j < us.length
          · rw [List.getElem?_append_left hji] at hj
            obtain ⟨t2, c, h1, h2, h3⟩ := hr6.2 j u hj
            refine ⟨t2, c, h1, ?_, ?_⟩
            · rw [List.take_add_one, List.map_append, List.getElem?_append_left (by rw [← hr6.1]; exact hji)]
              exact h2
            · rw [upd_ne fun z => by rw [z, h6] at h3; cases h3]
              exact x7 _ _ h3
          · have l1 := (List.getElem?_eq_some_iff.mp hj).1
            rw [List.length_append] at l1
            have l2 : j = us.length := by
              simp at l1
              omega
            subst l2
            rw [List.getElem?_append_right (Nat.le_refl _), Nat.sub_self] at hj
            cases hj
            refine ⟨t, cellN p n r, rfl, ?_, ?_⟩
            · rw [List.take_add_one, List.map_append, List.getElem?_append_right (by rw [← hr6.1]; exact Nat.le_refl _), hr6.1, Nat.sub_self, hr]
              rfl
            · rw [upd_ne nRt.symm]
              exact upd_same
      · obtain ⟨e6, us, h6, hl6, hr6⟩ := hp
        rw [tl, List.take_of_length_le (Nat.le_refl _)] at hr6
        refine ⟨e6 _ _ upd_same, q R us _ (fun x o hx => ?_) nR0 ((upd_ne nRD).trans h6) ⟨hr6.1, fun i u hu => ?_⟩⟩
        · have nx : x ≠ D := fun z => by
            rw [z, nD] at hx
            cases hx
          rw [upd_ne nx]
          exact e6 _ _ ((upd_ne nx).trans (e _ _ hx))
        · obtain ⟨t2, c, h1, h2, h3⟩ := hr6.2 i u hu
          refine ⟨t2, c, h1, h2, ?_⟩
          rw [upd_ne fun z => by rw [z, e6 _ _ upd_same] at h3; cases h3]
          exact h3
end
end Eyes

set_option Elab.async false
set_option linter.all false
set_option maxRecDepth 100000
/-! Joining: row by row is as all at once. -/
namespace Eyes
open PySem PySem.Spec PyProof.Rows L2
theorem mrgs_app (p : List Nat) (l k : List (Nat × Nat)) : mrgs p (l ++ k) = mrgs (mrgs p l) k := by
  unfold mrgs
  rw [List.foldl_append]
theorem mrg1_self (p : List Nat) (x : Nat) : mrg1 p x x = p := by
  unfold mrg1
  refine (List.map_congr_left fun z _ => ?_).trans (List.map_id p)
  by_cases g : z = max (itm p x) (itm p x)
  · rw [if_pos g, g]
    show min (itm p x) (itm p x) = max (itm p x) (itm p x)
    omega
  · rw [if_neg g]
    rfl
theorem mrgs_some {f : Nat × Nat → Bool} : ∀ {l : List (Nat × Nat)} {p : List Nat}, (∀ xy ∈ l, f xy = false → xy.1 = xy.2) → mrgs p (l.filter f) = mrgs p l
  | [], p, _ => rfl
  | xy :: l, p, h => by
    have ih := mrgs_some (f := f) (l := l) (p := mrg1 p xy.1 xy.2) fun z hz => h z (List.mem_cons_of_mem _ hz)
    cases hf : f xy with
    | true =>
      rw [List.filter_cons_of_pos hf]
      exact ih
    | false =>
      have e := h xy List.mem_cons_self hf
      have e2 : mrg1 p xy.1 xy.2 = p := by rw [e]; exact mrg1_self p _
      rw [List.filter_cons_of_neg (by rw [hf]; decide)]
      rw [e2] at ih
      rw [ih]
      show _ = mrgs (mrg1 p xy.1 xy.2) l
      rw [e2]
theorem numd_mem {n : Nat} {q : List Nat} {xy : Nat × Nat} (h : xy ∈ numd n q) : 1 ≤ xy.1 ∧ xy.1 ≤ n ∧ xy.2 = itm q xy.1 := by
  unfold numd at h
  obtain ⟨k, hk, rfl⟩ := List.mem_map.mp h
  have := List.mem_range.mp hk
  exact ⟨by omega, by omega, rfl⟩
theorem mem_numd {n : Nat} {q : List Nat} {x : Nat} (h1 : 1 ≤ x) (h2 : x ≤ n) : (x, itm q x) ∈ numd n q := by
  unfold numd
  refine List.mem_map.mpr ⟨x - 1, List.mem_range.mpr (by omega), ?_⟩
  rw [show x - 1 + 1 = x by omega]
theorem mrgs_less {n : Nat} {p q : List Nat} (hq : IsP n q) : mrgs p (less n q) = mrgs p (numd n q) :=
  mrgs_some fun xy hxy hf => by
    obtain ⟨h1, h2, h3⟩ := numd_mem hxy
    have h4 := hq.lo xy.1 h1 h2
    have h5 : ¬ xy.2 < xy.1 := of_decide_eq_false hf
    omega
theorem joined_fold {n : Nat} {p : List Nat} : ∀ {l : List (List Nat)}, (∀ q ∈ l, IsP n q) → mrgs p (l.flatMap (less n)) = l.foldl (fun f q => mrgs f (numd n q)) p
  | [], _ => rfl
  | q :: l, h => by
    rw [List.flatMap_cons, mrgs_app, mrgs_less (h q List.mem_cons_self)]
    exact joined_fold fun z hz => h z (List.mem_cons_of_mem _ hz)
theorem joined_one {n : Nat} {p : List Nat} (h : IsP n p) : mrgs (alone n) (numd n p) = p := by
  refine mrgs_same (l := numd n p) (k := []) (isP_alone n) h (numd_in h) (fun z hz => by cases hz) (fun u v h1 h2 h3 h4 e => ?_) (fun xy hxy => ?_) (fun u v h1 h2 h3 h4 e => ?_) (fun z hz => by cases hz)
  · unfold ali at e ⊢
    rw [itm_alone h1 h2, itm_alone h3 h4] at e
    rw [e]
  · obtain ⟨h1, h2, h3⟩ := numd_mem hxy
    unfold ali
    rw [h3]
    exact (h.rt _ h1 h2).symm
  · have a := mrgs_joins (isP_alone n) (numd_in h) (mem_numd (q := p) h1 h2)
    have b := mrgs_joins (isP_alone n) (numd_in h) (mem_numd (q := p) h3 h4)
    unfold ali at a b ⊢
    have e : itm p u = itm p v := e
    rw [a, b]
    show itm _ (itm p u) = itm _ (itm p v)
    rw [e]
theorem joined_cons {n : Nat} {p : List Nat} {l : List (List Nat)} (hp : IsP n p) (h : ∀ q ∈ l, IsP n q) : mrgs (alone n) ((p :: l).flatMap (less n)) = l.foldl (fun f q => mrgs f (numd n q)) p := by
  rw [joined_fold fun z hz => by
    rcases List.mem_cons.mp hz with rfl | hz
    · exact hp
    · exact h z hz]
  show l.foldl _ (mrgs (alone n) (numd n p)) = _
  rw [joined_one hp]
end Eyes

set_option Elab.async false
set_option linter.all false
set_option maxRecDepth 100000
set_option maxHeartbeats 4000000
namespace Eyes
open PySem PySem.Spec PyProof.Rows L2 Evl TL
def joinN (n : Nat) (p q : List Nat) : List Nat := mrgs p (numd n q)
/-! ### the lattice -/
def Le (n : Nat) (p q : List Nat) : Prop := ∀ x y, 1 ≤ x → x ≤ n → 1 ≤ y → y ≤ n → ali p x y → ali q x y
theorem Le.refl {n : Nat} {p : List Nat} : Le n p p := fun _ _ _ _ _ _ h => h
theorem Le.trans {n : Nat} {p q r : List Nat} (h : Le n p q) (g : Le n q r) : Le n p r := fun x y h1 h2 h3 h4 a => g x y h1 h2 h3 h4 (h x y h1 h2 h3 h4 a)
theorem inn_iff {n : Nat} {p q : List Nat} (hp : IsP n p) : inn p q = true ↔ Le n p q := by
  unfold inn
  rw [List.all_eq_true, hp.len]
  constructor
  · intro h x y h1 h2 h3 h4 a
    have e1 := of_decide_eq_true (h (x - 1) (List.mem_range.mpr (by omega)))
    have e2 := of_decide_eq_true (h (y - 1) (List.mem_range.mpr (by omega)))
    rw [show x - 1 + 1 = x by omega] at e1
    rw [show y - 1 + 1 = y by omega] at e2
    show itm q x = itm q y
    rw [e1, e2, show itm p x = itm p y from a]
  · intro h k hk
    have hk := List.mem_range.mp hk
    have lo := hp.lo (k + 1) (by omega) (by omega)
    exact decide_eq_true (h (k + 1) (itm p (k + 1)) (by omega) (by omega) lo.1 (by omega) (hp.rt (k + 1) (by omega) (by omega)).symm)
theorem met_isP {n : Nat} {p q : List Nat} : IsP n (metN n [p, q]) := metN_isP n [p, q]
theorem join_isP {n : Nat} {p q : List Nat} (hp : IsP n p) (hq : IsP n q) : IsP n (joinN n p q) := isP_mrgs hp (numd_in hq)
theorem met_le_l {n : Nat} {p q : List Nat} : Le n (metN n [p, q]) p := fun x y h1 h2 h3 h4 a => (metN_ali h1 h2 h3 h4).mp a p List.mem_cons_self
theorem met_le_r {n : Nat} {p q : List Nat} : Le n (metN n [p, q]) q := fun x y h1 h2 h3 h4 a => (metN_ali h1 h2 h3 h4).mp a q (List.mem_cons_of_mem _ List.mem_cons_self)
theorem le_met {n : Nat} {p q r : List Nat} (h : Le n r p) (g : Le n r q) : Le n r (metN n [p, q]) := fun x y h1 h2 h3 h4 a => (metN_ali h1 h2 h3 h4).mpr fun z hz => by
  rcases List.mem_cons.mp hz with rfl | hz
  · exact h x y h1 h2 h3 h4 a
  · rw [List.mem_singleton.mp hz]
    exact g x y h1 h2 h3 h4 a
theorem le_join_l {n : Nat} {p q : List Nat} (hp : IsP n p) (hq : IsP n q) : Le n p (joinN n p q) := fun x y h1 h2 h3 h4 a => mrgs_keeps hp (numd_in hq) ⟨h1, h2⟩ ⟨h3, h4⟩ a
theorem le_join_r {n : Nat} {p q : List Nat} (hp : IsP n p) (hq : IsP n q) : Le n q (joinN n p q) := fun x y h1 h2 h3 h4 a => by
  have e1 : ali (joinN n p q) x (itm q x) := mrgs_joins hp (numd_in hq) (mem_numd h1 h2)
  have e2 : ali (joinN n p q) y (itm q y) := mrgs_joins hp (numd_in hq) (mem_numd h3 h4)
  have a : itm q x = itm q y := a
  unfold ali at e1 e2 ⊢
  rw [e1, e2, a]
theorem join_le {n : Nat} {p q r : List Nat} (hp : IsP n p) (hq : IsP n q) (h : Le n p r) (g : Le n q r) : Le n (joinN n p q) r := fun x y h1 h2 h3 h4 a =>
  mrgs_least (f := itm r) hp (numd_in hq) h (fun xy hxy => by
    obtain ⟨g1, g2, g3⟩ := numd_mem hxy
    have lo := hq.lo xy.1 g1 g2
    rw [g3]
    exact g xy.1 (itm q xy.1) g1 g2 lo.1 (by omega) (hq.rt xy.1 g1 g2).symm) ⟨h1, h2⟩ ⟨h3, h4⟩ a
section
variable {n : Nat} {p q r : List Nat}
theorem inn_met (hr : IsP n r) : inn r (metN n [p, q]) = (inn r p && inn r q) := by
  rw [Bool.eq_iff_iff, Bool.and_eq_true, inn_iff hr, inn_iff hr, inn_iff hr]
  exact ⟨fun h => ⟨h.trans met_le_l, h.trans met_le_r⟩, fun h => le_met h.1 h.2⟩
theorem inn_join (hp : IsP n p) (hq : IsP n q) : inn (joinN n p q) r = (inn p r && inn q r) := by
  rw [Bool.eq_iff_iff, Bool.and_eq_true, inn_iff (join_isP hp hq), inn_iff hp, inn_iff hq]
  exact ⟨fun h => ⟨(le_join_l hp hq).trans h, (le_join_r hp hq).trans h⟩, fun h => join_le hp hq h.1 h.2⟩
end
end Eyes

set_option Elab.async false
set_option linter.all false
set_option maxRecDepth 100000
set_option maxHeartbeats 4000000
/-! list(zip(*rows)) of two rows, list(zip(p, q)): the pairs stay in the list, so each one is new. -/
namespace Eyes
open PySem PySem.Spec PyProof.Rows L2
section
variable {prog : Program} {w : World} {A : Around} {E : Value → Shared → Prop} {s : Shared}
theorem zl_item {z u o T c d p q : Addr} {b : Bool} {oT : Obj} {m : Nat} {us vs : Array Value} {x y : Value} {Q : Value → Shared → Prop} (D : ZipApart z u o c d p q) (Z : IsZipHeld s.heap z u o T b) (gT : s.heap.get? T = some oT) (U : IsPair s.heap u (.ref c) (.ref d))
    (C : s.heap.IsTupleIter c p m) (G : s.heap.IsTupleIter d q m) (P1 : s.heap.IsTuple p us) (P2 : s.heap.IsTuple q vs) (gx : us[m]? = some x) (gy : vs[m]? = some y)
    (k : ∀ h', IsZipHeld h' z u o T true → h'.IsTupleIter c p (m + 1) → h'.IsTupleIter d q (m + 1) → IsPair h' s.heap.objs.size x y → h'.objs.size = s.heap.objs.size + 1 → (∀ a ob, a ∉ [z, c, d] → s.heap.get? a = some ob → h'.get? a = some ob) → Q (.ref s.heap.objs.size) { s with heap := h' }) :
    wpAny (model prog w) A (Builtin.«zip.__next__» ⟨[.ref z], []⟩) (fun r s' => ∃ v, r = .done (.ret v) ∧ Q v s') E s := by
  show wpAny _ _ (do let f ← field (.ref z) 2; _) _ _ _
  refine wpAny_bind (wpAny_field Z rfl (x := Value.bool false) rfl ?_)
  show wpAny _ _ (do let f ← field (.ref z) 3; _) _ _ _
  refine wpAny_bind (wpAny_field Z rfl (x := Value.ref u) rfl (wpAny_bind (wpAny_seqItems U rfl ?_)))
  show wpAny _ _ (do let f ← Builtin.SmallTypes.ownedTupleIsFree (.ref z); _) _ _ _
  refine wpAny_bind (wpAny_tupleHeld_zip Z gT fun ha Za sa => ?_)
  simp only [Bool.false_eq_true, if_false]
  refine wpAny_bind ?_
  rw [← Array.forIn_toList]
  simp only [List.forIn_cons, List.forIn_nil]
  refine wpAny_bind (wpAny_bind (wpAny_holding ?_))
  show wpAny _ _ (do let f ← Builtin.SmallTypes.nextOf (.ref c); _) _ _ _
  have ea := sa.extBut
  refine wpAny_bind (RZ.nextOf_tuple_item (s := { s with heap := ha }) (C.extBut ea D.i1z) (P1.extBut ea D.l1z) gx fun hb Cb sb => wpAny_pure (wpAny_pure (wpAny_bind (wpAny_bind (wpAny_holding ?_)))))
  show wpAny _ _ (do let f ← Builtin.SmallTypes.nextOf (.ref d); _) _ _ _
  have eb := sb.extBut
  refine wpAny_bind (RZ.nextOf_tuple_item (s := { s with heap := hb }) ((G.extBut ea D.i2z).extBut eb D.i12.symm) ((P2.extBut ea D.l2z).extBut eb D.l2i1) gy fun hc Gc sc => wpAny_pure (wpAny_pure (wpAny_pure ?_)))
  have ec := sc.extBut
  have hn : hc.objs.size = s.heap.objs.size := by rw [sc.1, sb.1, sa.1]
  have Zc : IsZipHeld hc z u o T true := ec _ _ D.i2z.symm (eb _ _ D.i1z.symm Za)
  have keep : ∀ a ob, a ∉ [z, c, d] → s.heap.get? a = some ob → hc.get? a = some ob := fun a ob ha e => by
    simp only [List.mem_cons, List.not_mem_nil, or_false, not_or] at ha
    exact ec _ _ ha.2.2 (eb _ _ ha.2.1 (ea _ _ ha.1 e))
  show wpAny _ _ (do let t ← newTuple [x, y]; _) _ _ _
  refine wpAny_bind (wpAny_newTuple (wpAny_pure ⟨_, rfl, ?_⟩))
  have Pn : IsPair (hc.push { cls := .type "tuple", data := .seq #[x, y] }) hc.objs.size x y := Heap.get?_push_size _ rfl
  have sn : (hc.push { cls := .type "tuple", data := .seq #[x, y] }).objs.size = hc.objs.size + 1 := Heap.size_push ..
  show Q (.ref hc.objs.size) _
  rw [hn] at Pn sn ⊢
  exact k _ (Heap.get?_push_of_some _ Zc) ((Cb.extBut ec D.i12).at fun _ e => Heap.get?_push_of_some _ e) (Gc.at fun _ e => Heap.get?_push_of_some _ e) Pn sn fun a ob ha e => Heap.get?_push_of_some _ (keep a ob ha e)
theorem zl_next {z u o T c d p q : Addr} {b : Bool} {oT : Obj} {m : Nat} {us vs : Array Value} {x y : Value} {Q : Option Value → Shared → Prop} (D : ZipApart z u o c d p q) (Z : IsZipHeld s.heap z u o T b) (gT : s.heap.get? T = some oT) (U : IsPair s.heap u (.ref c) (.ref d))
    (C : s.heap.IsTupleIter c p m) (G : s.heap.IsTupleIter d q m) (P1 : s.heap.IsTuple p us) (P2 : s.heap.IsTuple q vs) (gx : us[m]? = some x) (gy : vs[m]? = some y)
    (k : ∀ h', IsZipHeld h' z u o T true → h'.IsTupleIter c p (m + 1) → h'.IsTupleIter d q (m + 1) → IsPair h' s.heap.objs.size x y → h'.objs.size = s.heap.objs.size + 1 → (∀ a ob, a ∉ [z, c, d] → s.heap.get? a = some ob → h'.get? a = some ob) → Q (some (.ref s.heap.objs.size)) { s with heap := h' }) :
    wpAny (model prog w) A (pyNext (.ref z)) Q E s := by
  have ty : s.TypeIs (.ref z) "zip" := ⟨_, Z, rfl⟩
  unfold pyNext
  refine wpAny_bind (wpAny_attempt (wpAny_callSpecial?_slot (name := Str.ofString "__next__") ty F.slot_zip_next (wpAny_call_entry F.slot_zip_next ty F.entry_zip_next ?_ (F.args_zip_next_1 _))))
  exact zl_item D Z gT U C G P1 P2 gx gy fun h' a1 a2 a3 a4 a5 a6 => wpAny_pure (k h' a1 a2 a3 a4 a5 a6)
theorem zl_stop {z u o T c d p q : Addr} {b : Bool} {oT : Obj} {m : Nat} {us vs : Array Value} {Q : PySem.Fin → Shared → Prop} (hh : A.handled = none) (D : ZipApart z u o c d p q) (Z : IsZipHeld s.heap z u o T b) (gT : s.heap.get? T = some oT) (U : IsPair s.heap u (.ref c) (.ref d))
    (C : s.heap.IsTupleIter c p m) (P1 : s.heap.IsTuple p us) (gx : us[m]? = none)
    (k : ∀ h' e, (∀ a ob, a ∉ [z, c, d] → s.heap.get? a = some ob → h'.get? a = some ob) → (∃ ob, h'.get? e = some ob ∧ ob.cls = .type "StopIteration") → E (.ref e) { s with heap := h' }) :
    wpAny (model prog w) A (Builtin.«zip.__next__» ⟨[.ref z], []⟩) Q E s := by
  show wpAny _ _ (do let f ← field (.ref z) 2; _) _ _ _
  refine wpAny_bind (wpAny_field Z rfl (x := Value.bool false) rfl ?_)
  show wpAny _ _ (do let f ← field (.ref z) 3; _) _ _ _
  refine wpAny_bind (wpAny_field Z rfl (x := Value.ref u) rfl (wpAny_bind (wpAny_seqItems U rfl ?_)))
  show wpAny _ _ (do let f ← Builtin.SmallTypes.ownedTupleIsFree (.ref z); _) _ _ _
  refine wpAny_bind (wpAny_tupleHeld_zip Z gT fun ha Za sa => ?_)
  simp only [Bool.false_eq_true, if_false]
  refine wpAny_bind ?_
  rw [← Array.forIn_toList]
  simp only [List.forIn_cons, List.forIn_nil]
  refine wpAny_bind (wpAny_bind (wpAny_holding ?_))
  show wpAny _ _ (do let f ← Builtin.SmallTypes.nextOf (.ref c); _) _ _ _
  have ea := sa.extBut
  refine wpAny_bind (RZ.nextOf_tuple_end (s := { s with heap := ha }) hh (C.extBut ea D.i1z) (P1.extBut ea D.l1z) gx fun hb e eb he => ?_)
  refine k hb e (fun a ob na q => ?_) he
  simp only [List.mem_cons, List.not_mem_nil, or_false, not_or] at na
  exact eb _ _ na.2.1 (ea _ _ na.1 q)
theorem zl_end {z u o T c d p q : Addr} {b : Bool} {oT : Obj} {m : Nat} {us vs : Array Value} {Q : Option Value → Shared → Prop} (hh : A.handled = none) (D : ZipApart z u o c d p q) (Z : IsZipHeld s.heap z u o T b) (gT : s.heap.get? T = some oT) (U : IsPair s.heap u (.ref c) (.ref d))
    (C : s.heap.IsTupleIter c p m) (P1 : s.heap.IsTuple p us) (gx : us[m]? = none)
    (k : ∀ h', (∀ a ob, a ∉ [z, c, d] → s.heap.get? a = some ob → h'.get? a = some ob) → Q none { s with heap := h' }) :
    wpAny (model prog w) A (pyNext (.ref z)) Q E s := by
  have ty : s.TypeIs (.ref z) "zip" := ⟨_, Z, rfl⟩
  unfold pyNext
  refine wpAny_bind (wpAny_attempt (wpAny_callSpecial?_slot (name := Str.ofString "__next__") ty F.slot_zip_next (wpAny_call_entry F.slot_zip_next ty F.entry_zip_next ?_ (F.args_zip_next_1 _))))
  refine zl_stop (us := us) (vs := vs) (q := q) hh D Z gT U C P1 gx fun h' e kp he => ?_
  obtain ⟨ob, ho, hc⟩ := he
  have hT : (Shared.TypeIs { s with heap := h' } (.ref e) "StopIteration") := ⟨ob, ho, hc⟩
  have hsub : isSubtype (.type "StopIteration") (.type "StopIteration") = pure true := by
    rw [isSubtype_type]
    kernel_rfl
  repeat (any_goals (first | assumption | exact k h' kp | wp_step))
end
structure Zst (b0 : Heap) (S z u o c d : Addr) (xs ys : List Value) (m : Nat) (ts : List Addr) (h : Heap) : Prop where
  len : ts.length = m
  keep : ∀ a ob, b0.get? a = some ob → h.get? a = some ob
  lst : ∃ n, h.get? S = some { cls := .type "list", data := .seq (ts.map Value.ref).toArray n }
  new : ∀ t ∈ ts, b0.objs.size ≤ t ∧ (∃ ob, h.get? t = some ob) ∧ t ∉ [S, z, u, o, c, d]
  nd : ts.Nodup
  at_ : ∀ (i : Nat) (t : Addr) (x y : Value), ts[i]? = some t → xs[i]? = some x → ys[i]? = some y → h.get? t = some { cls := .type "tuple", data := .seq #[x, y] }
section
variable {prog : Program} {w : World} {A : Around} {R : Result → Shared → Prop} {b0 h h' : Heap} {S z u o c d p q : Addr} {xs ys : List Value} {m : Nat} {ts : List Addr}
theorem Zst.turn (st : Zst b0 S z u o c d xs ys m ts h) (old : ∀ a ∈ [z, c, d], b0.objs.size ≤ a) (apS : S ∉ [z, c, d]) (kp : ∀ a ob, a ∉ [z, c, d] → h.get? a = some ob → h'.get? a = some ob) : Zst b0 S z u o c d xs ys m ts h' := by
  obtain ⟨n, hS⟩ := st.lst
  have sub6 : ∀ {a : Addr}, a ∈ [z, c, d] → a ∈ [S, z, u, o, c, d] := fun {a} hm => by
    simp only [List.mem_cons, List.not_mem_nil, or_false] at hm ⊢
    rcases hm with e | e | e
    · exact .inr (.inl e)
    · exact .inr (.inr (.inr (.inr (.inl e))))
    · exact .inr (.inr (.inr (.inr (.inr e))))
  refine ⟨st.len, fun a ob e => kp _ _ (fun hm => ?_) (st.keep _ _ e), ⟨n, kp _ _ apS hS⟩, fun t ht => ⟨(st.new t ht).1, (st.new t ht).2.1.imp fun ob e => kp _ _ (fun hm => (st.new t ht).2.2 (sub6 hm)) e, (st.new t ht).2.2⟩, st.nd, fun i t x y e1 e2 e3 => kp _ _ (fun hm => (st.new t (List.mem_of_getElem? e1)).2.2 (sub6 hm)) (st.at_ i t x y e1 e2 e3)⟩
  exact Nat.lt_irrefl _ (Nat.lt_of_lt_of_le (Heap.lt_size e) (old a hm))
theorem Zst.push (st : Zst b0 S z u o c d xs ys m ts h) {T : Addr} (hT : h.get? T = none) (hT0 : b0.objs.size ≤ T) (hT2 : T ∉ [S, z, u, o, c, d]) (hT3 : ∃ ob, h'.get? T = some ob) (old : ∀ a ∈ [S, z, c, d], b0.objs.size ≤ a) (kp : ∀ a ob, a ∉ [S, z, c, d] → h.get? a = some ob → h'.get? a = some ob)
    (hS : ∃ n, h'.get? S = some { cls := .type "list", data := .seq ((ts ++ [T]).map Value.ref).toArray n }) (hp : ∀ x y, xs[m]? = some x → ys[m]? = some y → h'.get? T = some { cls := .type "tuple", data := .seq #[x, y] }) : Zst b0 S z u o c d xs ys (m + 1) (ts ++ [T]) h' := by
  have nS : ∀ {a ob}, b0.get? a = some ob → a ∉ [S, z, c, d] := fun {a ob} e hm => Nat.lt_irrefl _ (Nat.lt_of_lt_of_le (Heap.lt_size e) (old a hm))
  have sub6 : ∀ {a : Addr}, a ∉ [S, z, u, o, c, d] → a ∉ [S, z, c, d] := fun {a} hn hm => hn (by
    simp only [List.mem_cons, List.not_mem_nil, or_false] at hm ⊢
    rcases hm with e | e | e | e
    · exact .inl e
    · exact .inr (.inl e)
    · exact .inr (.inr (.inr (.inr (.inl e))))
    · exact .inr (.inr (.inr (.inr (.inr e)))))
  refine ⟨by rw [List.length_append, st.len]; rfl, fun a ob e => kp _ _ (nS e) (st.keep _ _ e), hS, fun t ht => ?_, ?_, fun i t x y e1 e2 e3 => ?_⟩
  · rcases List.mem_append.mp ht with ht | ht
    · obtain ⟨a1, a2, a3⟩ := st.new t ht
      exact ⟨a1, a2.imp fun ob e => kp _ _ (sub6 a3) e, a3⟩
    · rw [List.mem_singleton.mp ht]
      exact ⟨hT0, hT3, hT2⟩
  · refine List.nodup_append.mpr ⟨st.nd, by simp, fun a ha b hb e => ?_⟩
    rw [List.mem_singleton.mp hb] at e
    obtain ⟨ob, h2⟩ := (st.new a ha).2.1
    rw [e, hT] at h2
    cases h2
  · by_cases hi : i < ts.length
    · rw [List.getElem?_append_left hi] at e1
      exact kp _ _ (sub6 (st.new t (List.mem_of_getElem? e1)).2.2) (st.at_ i t x y e1 e2 e3)
    · have hl := st.len
      have : i = m := by
        have := (List.getElem?_eq_some_iff.mp e1).1
        rw [List.length_append] at this
        simp at this
        omega
      subst this
      rw [List.getElem?_append_right (by omega), hl, Nat.sub_self] at e1
      rw [← Option.some.inj e1]
      exact hp x y e2 e3
theorem mapSeq_push (ts : List Addr) (t : Addr) (n : Nat) : some (Obj.mapSeq (·.push (.ref t)) { cls := .type "list", data := .seq (ts.map Value.ref).toArray n }) = some { cls := .type "list", data := .seq ((ts ++ [t]).map Value.ref).toArray (if ((ts.map Value.ref).toArray.push (.ref t)).size == (ts.map Value.ref).toArray.size then n else n + 1) } := by
  simp [Obj.mapSeq]
theorem zl_loop (hh : A.handled = none) (D : ZipApart z u o c d p q) (l1 : b0.IsTuple p xs.toArray) (l2 : b0.IsTuple q ys.toArray) (hl : xs.length = ys.length) (hsz : xs.length ≤ sizeLine) (apS : S ∉ [z, u, o, c, d]) (old : ∀ a ∈ [S, z, u, o, c, d], b0.objs.size ≤ a) (res : Value) :
    ∀ (k m : Nat) (s : Shared) (ts : List Addr) (T : Addr) (b : Bool) (oT : Obj), xs.length - m = k → m ≤ xs.length → Zst b0 S z u o c d xs ys m ts s.heap → IsPair s.heap u (.ref c) (.ref d) → s.heap.IsTupleIter c p m → s.heap.IsTupleIter d q m → (∀ a ∈ [S, z, u, o, c, d], a < s.heap.objs.size) → b0.objs.size ≤ s.heap.objs.size →
    IsZipHeld s.heap z u o T b → s.heap.get? T = some oT → T ∉ [S, z, c, d] →
    (∀ h' ts', Zst b0 S z u o c d xs ys xs.length ts' h' → R (.ok (.ret res)) { s with heap := h' }) → codeAny (model prog w) A (.builtin "list.extend.loop" ⟨[.ref S, .ref z, res], []⟩) R s := by
  have nS : ∀ {a : Addr}, a ∈ [z, u, o, c, d] → a ≠ S := fun {a} ha e => apS (e ▸ ha)
  have sub3 : ∀ {a : Addr}, a ∈ [z, c, d] → a ∈ [z, u, o, c, d] := fun {a} hm => by
    simp only [List.mem_cons, List.not_mem_nil, or_false] at hm ⊢
    rcases hm with e | e | e
    · exact .inl e
    · exact .inr (.inr (.inr (.inl e)))
    · exact .inr (.inr (.inr (.inr e)))
  have apS3 : S ∉ [z, c, d] := fun hm => apS (sub3 hm)
  have old3 : ∀ a ∈ [z, c, d], b0.objs.size ≤ a := fun a ha => old a (List.mem_cons_of_mem _ (sub3 ha))
  intro k
  induction k with
  | zero =>
    intro m s ts T b oT hk hm st U C G lo b0s Z gT aT fin
    have e : m = xs.length := by omega
    subst e
    refine codeAny_builtin F.entry_extend_loop ?_
    rw [Around.under_plainId F.plain_extend_loop _]
    show wpAny _ A.in1 (do let r ← pyNext (.ref z); _) _ _ s
    refine wpAny_bind (zl_end (us := xs.toArray) (vs := ys.toArray) (q := q) hh D Z gT U C (l1.at fun ob e => st.keep _ _ e) (by simp) fun h' kp => wpAny_pure ?_)
    exact fin h' ts (st.turn old3 apS3 kp)
  | succ k ih =>
    intro m s ts T b oT hk hm st U C G lo b0s Z gT aT fin
    have hlt : m < xs.length := by omega
    obtain ⟨n, hS⟩ := st.lst
    have gx : xs[m]? = some xs[m] := List.getElem?_eq_getElem hlt
    have gy : ys[m]? = some (ys[m]'(by omega)) := List.getElem?_eq_getElem _
    refine codeAny_builtin F.entry_extend_loop ?_
    rw [Around.under_plainId F.plain_extend_loop _]
    show wpAny _ A.in1 (do let r ← pyNext (.ref z); _) _ _ s
    have P1 : s.heap.IsTuple p xs.toArray := l1.at fun ob e => st.keep _ _ e
    have P2 : s.heap.IsTuple q ys.toArray := l2.at fun ob e => st.keep _ _ e
    refine wpAny_bind (zl_next D Z gT U C G P1 P2 (x := xs[m]) (y := ys[m]'(by omega)) (by rw [List.getElem?_toArray]; exact gx) (by rw [List.getElem?_toArray]; exact gy) fun h' Z' C' G' Pn sn kp => ?_)
    have hS' : h'.get? S = some { cls := .type "list", data := .seq (ts.map Value.ref).toArray n } := kp _ _ apS3 hS
    show wpAny _ A.in1 (do let r ← updateSeq S (·.push (.ref s.heap.objs.size)); _) _ _ _
    refine wpAny_bind ?_
    have gone : ∀ {a ob}, a ≠ S → h'.get? a = some ob → (h'.update S (Obj.mapSeq (·.push (.ref s.heap.objs.size)))).get? a = some ob := fun {a ob} na e => (Heap.get?_update_other _ _ (Ne.symm na)).trans e
    have nnew : s.heap.objs.size ≠ S := fun e => Nat.lt_irrefl _ (e ▸ lo S List.mem_cons_self)
    have su : (h'.update S (Obj.mapSeq (·.push (.ref s.heap.objs.size)))).objs.size = s.heap.objs.size + 1 := by rw [← sn]; exact Heap.size_update ..
    have aT' : T ≠ S := fun e => aT (by rw [e]; exact List.mem_cons_self)
    have gT' : (h'.update S (Obj.mapSeq (·.push (.ref s.heap.objs.size)))).get? s.heap.objs.size = some { cls := .type "tuple", data := .seq #[xs[m], ys[m]'(by omega)] } := gone nnew Pn
    have loz : ∀ a ∈ [S, z, u, o, c, d], a ≠ s.heap.objs.size := fun a ha e => Nat.lt_irrefl _ (e ▸ lo a ha)
    have st1 : Zst b0 S z u o c d xs ys m ts { s with heap := s.heap }.heap := st
    have hfree : s.heap.get? s.heap.objs.size = none := by
      cases e : s.heap.get? s.heap.objs.size with
      | none => rfl
      | some ob => exact absurd (Heap.lt_size e) (Nat.lt_irrefl _)
    have acl : (ts.map Value.ref).toArray.size = m := by simp [st.len]
    refine wpAny_updateSeq hS' rfl (wpAny_pure ⟨plainId_quiet F.plain_extend_loop _, ih (m + 1) _ (ts ++ [s.heap.objs.size]) T true oT (by omega) hlt ?_ (gone (nS (by simp)) (kp _ _ (fun hm => ?_) U)) (C'.at fun _ e => gone (nS (by simp)) e) (G'.at fun _ e => gone (nS (by simp)) e) (fun a ha => by
      rw [su]
      exact Nat.lt_succ_of_lt (lo a ha)) (by
      show b0.objs.size ≤ (h'.update S (Obj.mapSeq (·.push (.ref s.heap.objs.size)))).objs.size
      rw [su]
      exact Nat.le_succ_of_le b0s) (gone (nS (by simp)) Z') (gone aT' (kp _ _ (fun hm => aT (List.mem_cons_of_mem _ hm)) gT)) aT fun h2 ts2 hz => fin h2 ts2 hz⟩) ?_ ?_
    · have kp2 : ∀ a ob, a ∉ [S, z, c, d] → s.heap.get? a = some ob → (h'.update S (Obj.mapSeq (·.push (.ref s.heap.objs.size)))).get? a = some ob := fun a ob na e => gone (fun z => na (by rw [z]; exact List.mem_cons_self)) (kp _ _ (fun hm => na (List.mem_cons_of_mem _ hm)) e)
      refine st.push (T := s.heap.objs.size) hfree b0s (fun hm => loz _ hm rfl) ⟨_, gT'⟩ (fun a ha => ?_) kp2 ⟨_, (Heap.get?_update_self _ hS' rfl).trans (mapSeq_push ts _ n)⟩ fun x y e1 e2 => ?_
      · rcases List.mem_cons.mp ha with rfl | ha
        · exact old _ List.mem_cons_self
        · exact old3 _ ha
      · rw [gx] at e1
        rw [gy] at e2
        cases e1
        cases e2
        exact gT'
    · simp only [List.mem_cons, List.not_mem_nil, or_false] at hm
      rcases hm with e | e | e
      · exact D.TIz e
      · exact D.TIi1 e
      · exact D.TIi2 e
    · rw [acl]
      omega
    · rw [Array.size_push, acl]
      omega
theorem zip_no_len : typeLookup (.type "zip") "__len__" = pure none := by
  rw [typeLookup_type, builtinLookup_eq_fast]
  kernel_rfl
theorem zip_no_hint : typeLookup (.type "zip") "__length_hint__" = pure none := by
  rw [typeLookup_type, builtinLookup_eq_fast]
  kernel_rfl
theorem zl_list {E : Value → Shared → Prop} {Q : Value → Shared → Prop} {s : Shared} (hh : A.handled = none) (D : ZipApart z u o c d p q) (l1 : b0.IsTuple p xs.toArray) (l2 : b0.IsTuple q ys.toArray) (hl : xs.length = ys.length) (h0 : 0 < xs.length) (hsz : xs.length ≤ sizeLine) (old : ∀ a ∈ [z, u, o, c, d], b0.objs.size ≤ a ∧ a < s.heap.objs.size)
    (b0s : b0.objs.size ≤ s.heap.objs.size) (kb : ∀ a ob, b0.get? a = some ob → s.heap.get? a = some ob) (Z : IsZip s.heap z u o .none) (U : IsPair s.heap u (.ref c) (.ref d)) (O : IsPair s.heap o .none .none) (C : s.heap.IsTupleIter c p 0) (G : s.heap.IsTupleIter d q 0)
    (fin : ∀ h' ts', s.heap.objs.size < h'.objs.size → Zst b0 s.heap.objs.size z u o c d xs ys xs.length ts' h' → Q (.ref s.heap.objs.size) { s with heap := h' }) : wpAny (model prog w) A (call (.type "list") [.ref z]) Q E s := by
  have zS : ∀ {a : Addr}, a ∈ [z, u, o, c, d] → a ≠ s.heap.objs.size := fun {a} ha => Nat.ne_of_lt (old a ha).2
  refine callType_codes (Q₁ := fun obj s1 => obj = .ref s.heap.objs.size ∧ s1 = { s with heap := s.heap.push { cls := .type "list", data := .seq #[] } }) F.called_list (F.typeCall_list_1 _) F.entry_list_init (code_list_new _ ⟨rfl, rfl⟩) fun obj s1 e1 => ?_
  obtain ⟨rfl, rfl⟩ := e1
  have hS : (s.heap.push { cls := .type "list", data := .seq #[] }).get? s.heap.objs.size = some { cls := .type "list", data := .seq #[] } := Heap.get?_push_size _ rfl
  refine ⟨⟨_, hS, rfl⟩, F.args_list_init_2 _ _, ?_⟩
  generalize hN : s.heap.objs.size = N at zS hS fin ⊢
  generalize hA1 : A.in1 = A1
  have hh1 : A1.handled = none := by rw [← hA1]; exact hh
  show wpAny _ A1.in1 (do let was ← Builtin.List.listItems (.ref N); Builtin.List.listUpdate (.ref N) (fun _ => #[]); letGo was.toList.reverse; Builtin.List.listExtendWith (.ref N) (.ref z) .none) _ _ _
  refine wpAny_bind ?_
  unfold Builtin.List.listItems
  refine wpAny_bind (wpAny_seqItems hS rfl (wpAny_pure ?_))
  show wpAny _ A1.in1 (do updateSeq N (fun _ => #[]); letGo (#[] : Array Value).toList.reverse; Builtin.List.listExtendWith (.ref N) (.ref z) .none) _ _ _
  refine wpAny_bind (wpAny_updateSeq hS rfl (wpAny_bind (wpAny_letGo ?_)))
  have hS2 := Heap.get?_update_self (Obj.mapSeq fun _ => (#[] : Array Value)) hS rfl
  have kp0 : ∀ a ob, s.heap.get? a = some ob → ((s.heap.push { cls := .type "list", data := .seq #[] }).update N (Obj.mapSeq fun _ => (#[] : Array Value))).get? a = some ob := fun a ob e => (Heap.get?_update_other _ _ (fun z => by
    have := Heap.lt_size e
    rw [← z, hN] at this
    exact Nat.lt_irrefl _ this)).trans (Heap.get?_push_of_some _ e)
  have su : ((s.heap.push { cls := .type "list", data := .seq #[] }).update N (Obj.mapSeq fun _ => (#[] : Array Value))).objs.size = N + 1 := by
    rw [Heap.size_update, Heap.size_push, hN]
  have hS3 : ∃ n, ((s.heap.push { cls := .type "list", data := .seq #[] }).update N (Obj.mapSeq fun _ => (#[] : Array Value))).get? N = some { cls := .type "list", data := .seq #[] n } := ⟨_, hS2.trans rfl⟩
  clear hS2 hS
  generalize (s.heap.push { cls := .type "list", data := .seq #[] }).update N (Obj.mapSeq fun _ => (#[] : Array Value)) = g0 at kp0 su hS3 ⊢
  obtain ⟨n, hS⟩ := hS3
  replace Z := kp0 _ _ Z
  replace U := kp0 _ _ U
  replace O := kp0 _ _ O
  replace C : g0.IsTupleIter c p 0 := C.at fun ob e => kp0 _ _ e
  replace G : g0.IsTupleIter d q 0 := G.at fun ob e => kp0 _ _ e
  have kb0 : ∀ a ob, b0.get? a = some ob → g0.get? a = some ob := fun a ob e => kp0 _ _ (kb _ _ e)
  have tyz : (Shared.TypeIs { s with heap := g0 } (.ref z) "zip") := ⟨_, Z, rfl⟩
  have Nz : N ≠ z := fun e => zS (a := z) (by simp) e.symm
  unfold Builtin.List.listExtendWith
  refine wpAny_bind (wpAny_typeOf tyz ?_)
  have e1 : Builtin.List.listSameRef (.ref N) (.ref z) = false := by simp [Builtin.List.listSameRef, Nz]
  have e2 : (Value.type "zip" == Value.type "list") = false := by decide
  have e3 : (Value.type "zip" == Value.type "tuple") = false := by decide
  simp only [e1, e2, e3, Bool.or_false, Bool.false_eq_true, if_false]
  refine wpAny_bind (wpAny_pyIter_zip Z (wpAny_bind (wpAny_holding ?_)))
  unfold Builtin.List.listLengthHint
  refine wpAny_bind (wpAny_specialOf tyz zip_no_len ?_)
  show wpAny _ A1.in1 (do let f ← specialOf (Value.ref z) (Str.ofString "__length_hint__"); _) _ _ _
  refine wpAny_bind (wpAny_specialOf tyz zip_no_hint (wpAny_pure ?_))
  show wpAny _ A1.in1 (do rule "list.extend.makes-room"; Builtin.List.listTouch (.ref N); again (.builtin "list.extend.loop" ⟨[.ref N, .ref z, .none], []⟩)) _ _ _
  refine wpAny_bind (wpAny_rule (wpAny_bind ?_))
  show wpAny _ A1.in1 (do updateSeq N (·.push .none); updateSeq N (·.pop)) _ _ _
  refine wpAny_bind (wpAny_updateSeq hS rfl ?_)
  have hT2 := Heap.get?_update_self (Obj.mapSeq (·.push Value.none)) hS rfl
  refine wpAny_updateSeq (hz := by seq_fits) hT2 rfl ?_
  have hT3 : ∃ n, ((g0.update N (Obj.mapSeq (·.push Value.none))).update N (Obj.mapSeq (·.pop))).get? N = some { cls := .type "list", data := .seq #[] n } := ⟨_, (Heap.get?_update_self (Obj.mapSeq (·.pop)) hT2 rfl).trans rfl⟩
  have kq : ∀ a ob, a ≠ N → g0.get? a = some ob → ((g0.update N (Obj.mapSeq (·.push Value.none))).update N (Obj.mapSeq (·.pop))).get? a = some ob := fun a ob na e => (Heap.get?_update_other _ _ (Ne.symm na)).trans ((Heap.get?_update_other _ _ (Ne.symm na)).trans e)
  have sv : ((g0.update N (Obj.mapSeq (·.push Value.none))).update N (Obj.mapSeq (·.pop))).objs.size = N + 1 := by
    rw [Heap.size_update, Heap.size_update, su]
  clear hT2 hS
  generalize (g0.update N (Obj.mapSeq (·.push Value.none))).update N (Obj.mapSeq (·.pop)) = g1 at hT3 kq sv ⊢
  obtain ⟨n, hS⟩ := hT3
  replace Z := kq _ _ (zS (by simp)) Z
  replace U := kq _ _ (zS (by simp)) U
  replace O := kq _ _ (zS (by simp)) O
  replace C : g1.IsTupleIter c p 0 := C.at fun ob e => kq _ _ (zS (by simp)) e
  replace G : g1.IsTupleIter d q 0 := G.at fun ob e => kq _ _ (zS (by simp)) e
  replace kb0 : ∀ a ob, b0.get? a = some ob → g1.get? a = some ob := fun a ob e => kq _ _ (fun y => by
    rw [y] at e
    have := Heap.lt_size e
    rw [← hN] at this
    exact Nat.lt_irrefl _ (Nat.lt_of_lt_of_le this b0s)) (kb0 _ _ e)
  refine wpAny_pure ⟨plainId_quiet F.plain_extend_loop _, ?_⟩
  -- the first pair
  have apS : N ∉ [z, u, o, c, d] := fun hm => zS hm rfl
  have gx : xs[0]? = some xs[0] := List.getElem?_eq_getElem h0
  have gy : ys[0]? = some (ys[0]'(by omega)) := List.getElem?_eq_getElem _
  refine codeAny_builtin F.entry_extend_loop ?_
  rw [Around.under_plainId F.plain_extend_loop _]
  show wpAny _ A1.in1 (do let r ← pyNext (.ref z); _) _ _ _
  refine wpAny_bind (RZ.pyNext_zipT_item D Z U O C G (l1.at fun ob e => kb0 _ _ e) (l2.at fun ob e => kb0 _ _ e) (x := xs[0]) (y := ys[0]'(by omega)) (by rw [List.getElem?_toArray]; exact gx) (by rw [List.getElem?_toArray]; exact gy) fun h' Z' O' C' G' Pn sn kp => ?_)
  have ozc : ∀ {a : Addr}, a ∈ [z, o, c, d] → a ∈ [z, u, o, c, d] := fun {a} hm => by
    simp only [List.mem_cons, List.not_mem_nil, or_false] at hm ⊢
    rcases hm with e | e | e | e
    · exact .inl e
    · exact .inr (.inr (.inl e))
    · exact .inr (.inr (.inr (.inl e)))
    · exact .inr (.inr (.inr (.inr e)))
  have kpn : ∀ a ob, a ∉ [z, o, c, d] → g1.get? a = some ob → h'.get? a = some ob := fun a ob na e => by
    simp only [List.mem_cons, List.not_mem_nil, or_false, not_or] at na
    exact kp _ _ na.1 na.2.1 na.2.2.1 na.2.2.2 e
  have hS' : h'.get? N = some { cls := .type "list", data := .seq #[] n } := kpn _ _ (fun hm => apS (ozc hm)) hS
  have n1 : ({ s with heap := g1 } : Shared).heap.objs.size = N + 1 := sv
  rw [n1] at Z' Pn sn ⊢
  show wpAny _ A1.in1 (do let r ← updateSeq N (·.push (.ref (N + 1))); _) _ _ _
  refine wpAny_bind ?_
  have sz5 : ∀ {a : Addr}, a ∈ [z, u, o, c, d] → a < N := fun {a} ha => by
    rw [← hN]
    exact (old a ha).2
  have gone : ∀ {a ob}, a ≠ N → h'.get? a = some ob → (h'.update N (Obj.mapSeq (·.push (.ref (N + 1))))).get? a = some ob := fun {a ob} na e => (Heap.get?_update_other _ _ (Ne.symm na)).trans e
  have sw : (h'.update N (Obj.mapSeq (·.push (.ref (N + 1))))).objs.size = N + 2 := by
    rw [Heap.size_update, sn]
  have gT := gone (Nat.succ_ne_self N) Pn
  have b0N : b0.objs.size ≤ N := by
    rw [← hN]
    exact b0s
  refine wpAny_updateSeq hS' rfl (wpAny_pure ⟨plainId_quiet F.plain_extend_loop _, zl_loop (b0 := b0) hh1 D l1 l2 hl hsz apS (fun a ha => ?_) .none (xs.length - 1) 1 _ [N + 1] (N + 1) false _ rfl h0 ?_ (gone (zS (by simp)) (kpn _ _ (fun hm => ?_) U)) (C'.at fun _ e => gone (zS (by simp)) e) (G'.at fun _ e => gone (zS (by simp)) e) (fun a ha => ?_) ?_ (gone (zS (by simp)) Z') gT (fun hm => ?_) fun h2 ts2 hz => ?_⟩)
  · rcases List.mem_cons.mp ha with rfl | ha
    · exact b0N
    · exact (old a ha).1
  · have five : ∀ a ob, b0.get? a = some ob → a ∉ [z, o, c, d] := fun a ob e hm => Nat.lt_irrefl _ (Nat.lt_of_lt_of_le (Heap.lt_size e) (old a (ozc hm)).1)
    refine ⟨rfl, fun a ob e => gone (fun y => ?_) (kpn _ _ (five _ _ e) (kb0 _ _ e)), ⟨_, (Heap.get?_update_self _ hS' rfl).trans (mapSeq_push [] _ n)⟩, fun t ht => ?_, by simp, fun i t x y e1 e2 e3 => ?_⟩
    · rw [y] at e
      exact Nat.lt_irrefl _ (Nat.lt_of_lt_of_le (Heap.lt_size e) b0N)
    · rw [List.mem_singleton.mp ht]
      refine ⟨Nat.le_succ_of_le b0N, ⟨_, gT⟩, fun hm => ?_⟩
      rcases List.mem_cons.mp hm with e | hm
      · exact Nat.succ_ne_self N e
      · exact absurd (sz5 hm) (Nat.not_lt.mpr (Nat.le_succ N))
    · cases i with
      | zero =>
        rw [← Option.some.inj e1]
        rw [gx] at e2
        rw [gy] at e3
        cases e2
        cases e3
        exact gT
      | succ i => cases e1
  · simp only [List.mem_cons, List.not_mem_nil, or_false] at hm
    rcases hm with e | e | e | e
    · exact D.TIz e
    · exact D.TITO e
    · exact D.TIi1 e
    · exact D.TIi2 e
  · show a < (h'.update N (Obj.mapSeq (·.push (.ref (N + 1))))).objs.size
    rw [sw]
    rcases List.mem_cons.mp ha with e | ha
    · rw [e]
      exact Nat.lt_succ_of_lt (Nat.lt_succ_self N)
    · exact Nat.lt_succ_of_lt (Nat.lt_succ_of_lt (sz5 ha))
  · show b0.objs.size ≤ (h'.update N (Obj.mapSeq (·.push (.ref (N + 1))))).objs.size
    rw [sw]
    exact Nat.le_succ_of_le (Nat.le_succ_of_le b0N)
  · rcases List.mem_cons.mp hm with e | hm
    · exact Nat.succ_ne_self N e
    · refine absurd (sz5 (a := N + 1) ?_) (Nat.not_lt.mpr (Nat.le_succ N))
      simp only [List.mem_cons, List.not_mem_nil, or_false] at hm ⊢
      rcases hm with e | e | e
      · exact .inl e
      · exact .inr (.inr (.inr (.inl e)))
      · exact .inr (.inr (.inr (.inr e)))
  · obtain ⟨k, hk⟩ := hz.lst
    exact ⟨rfl, fin h2 ts2 (Heap.lt_size hk) hz⟩
end
/-! ### the heap behind it -/
def layT (H : Hp) : List (Addr × List V) → Hp
  | [] => H
  | (t, c) :: r => upd (layT H r) t (.tup c)
theorem layT_none {H : Hp} {a : Addr} : ∀ {l : List (Addr × List V)}, (∀ p ∈ l, p.1 ≠ a) → layT H l a = H a
  | [], _ => rfl
  | (t, c) :: r, h => by
    show upd (layT H r) t (.tup c) a = _
    rw [upd_ne (fun e => h (t, c) List.mem_cons_self e.symm)]
    exact layT_none fun p hp => h p (List.mem_cons_of_mem _ hp)
theorem layT_at {H : Hp} : ∀ {l : List (Addr × List V)} {t : Addr} {c : List V}, (l.map (·.1)).Nodup → (t, c) ∈ l → layT H l t = some (.tup c)
  | (t', c') :: r, t, c, nd, h => by
    obtain ⟨n1, n2⟩ := List.nodup_cons.mp (show (t' :: r.map (·.1)).Nodup from nd)
    rcases List.mem_cons.mp h with e | h
    · cases e
      exact upd_same
    · show upd (layT H r) t' (.tup c') t = _
      rw [upd_ne fun e => n1 (by rw [← e]; exact List.mem_map.mpr ⟨_, h, rfl⟩)]
      exact layT_at n2 h
theorem layT_cases {H : Hp} {a : Addr} {ob : HO} : ∀ {l : List (Addr × List V)}, layT H l a = some ob → H a = some ob ∨ ∃ c, (a, c) ∈ l ∧ ob = .tup c
  | [], h => .inl h
  | (t, c) :: r, h => by
    by_cases e : a = t
    · subst e
      rw [show layT H ((a, c) :: r) a = some (.tup c) from upd_same] at h
      exact .inr ⟨c, List.mem_cons_self, (Option.some.inj h).symm⟩
    · rw [show layT H ((t, c) :: r) a = layT H r a from upd_ne e] at h
      exact (layT_cases h).imp id fun ⟨c, h1, h2⟩ => ⟨c, List.mem_cons_of_mem _ h1, h2⟩
theorem Inv.many {X : Cx} {pins : List (Addr × Obj)} {σ : L2.St} {H : Hp} {s : Shared} {h' : Heap} {l : List (Addr × List V)} {S : Addr} {vs : List V} {its : List Value} {n : Nat} (I : Inv X pins σ H s) (k : ∀ b o, s.heap.get? b = some o → h'.get? b = some o) (hl : ∀ p ∈ l, s.heap.objs.size ≤ p.1 ∧ p.1 ≠ S) (nd : (l.map (·.1)).Nodup) (hS : s.heap.objs.size ≤ S)
    (ok : ∀ p ∈ l, p.2.length ≤ sizeLine ∧ ∃ us, Vals p.2 us ∧ IsTup h' p.1 us.toArray) (hv : vs.length ≤ sizeLine) (rv : Vals vs its) (hs : h'.get? S = some { cls := .type "list", data := .seq its.toArray n }) : Inv X pins σ (upd (layT H l) S (.lst vs)) { s with heap := h' } := by
  have hn : ∀ {a : Addr}, s.heap.objs.size ≤ a → H a = none := fun {a} h => I.hok.fresh h
  have old : ∀ {a : Addr} {o : Obj}, s.heap.get? a = some o → (∀ p ∈ l, p.1 ≠ a) ∧ a ≠ S := fun {a o} e => by
    have := Heap.lt_size e
    exact ⟨fun p hp z => Nat.lt_irrefl _ (Nat.lt_of_lt_of_le this (z ▸ (hl p hp).1)), fun z => Nat.lt_irrefl _ (Nat.lt_of_lt_of_le this (z ▸ hS))⟩
  have tr : ∀ {a : Addr} {o : HO}, H a = some o → (∀ p ∈ l, p.1 ≠ a) ∧ a ≠ S := fun {a o} e => by
    have z := I.hok.lt e
    exact ⟨fun p hp y => Nat.lt_irrefl _ (Nat.lt_of_lt_of_le z (y ▸ (hl p hp).1)), fun y => Nat.lt_irrefl _ (Nat.lt_of_lt_of_le z (y ▸ hS))⟩
  have ext : ∀ {a : Addr} {o : HO}, H a = some o → upd (layT H l) S (.lst vs) a = some o := fun {a o} e => by
    rw [upd_ne (tr e).2, layT_none (tr e).1]
    exact e
  have no : ∀ {a : Addr} {o : Obj}, s.heap.get? a = some o → H a = none → upd (layT H l) S (.lst vs) a = none := fun {a o} e z => by
    rw [upd_ne (old e).2, layT_none (old e).1]
    exact z
  refine I.un (t' := s.toks) ⟨fun b ob q _ _ _ => k b ob q, fun b ob q _ _ _ => ⟨ob.slots, k b ob q⟩, fun b ob q z _ => no q z, fun b ob q _ => ⟨ob, k b ob q⟩, fun b xs q => ext q, fun b o u q => ext q, fun b ps q => ⟨#[], by rw [ext q]; simp⟩⟩ fun a o e => ?_
  by_cases ha : a = S
  · subst ha
    rw [upd_same] at e
    cases e
    exact ⟨hv, its, n, rv, hs⟩
  · rw [upd_ne ha] at e
    rcases layT_cases e with e | ⟨c, hc, rfl⟩
    · exact (I.hok a o e).stay (fun b u _ q => k b u q) (fun b q => ext q) fun b xs q => ext q
    · obtain ⟨z1, us, z2, z3⟩ := ok (a, c) hc
      exact ⟨z1, us, z2, z3⟩
open Evl
def kListZ (K : PySem.W.Frag) (a b : Addr) (H1 : Hp) (Q : VK) : Prop := ∃ xs ys : List V, SqT K H1 a xs ∧ SqT K H1 b ys ∧ xs.length = ys.length ∧ 0 < xs.length ∧ xs.length ≤ 100000 ∧ ∀ q us H2, Ex H1 H2 → H1 q = none → H2 q = some (.lst us) → us.length = xs.length → (∀ (i : Nat) (x y : V), xs[i]? = some x → ys[i]? = some y → ∃ t, us[i]? = some (.ref t) ∧ H1 t = none ∧ H2 t = some (.tup [x, y])) → Q (.ref q) H2
section
variable {X : Cx} {p pos p2 pos2 : Pos} {e e2 : Expr} {ta : TA} {te : TE}
theorem rl_listZ {pins : List (Addr × Obj)} {s : Shared} {σ : L2.St} {H : Hp} {a b : Addr} {Q : VK} (hc : X.calm = true) (I : Inv X pins σ H s) (h : kListZ X.K a b H Q) :
    wpAny (model X.prog X.w) X.A (call (.type "zip") [.ref a, .ref b]) (fun v s1 => wpAny (model X.prog X.w) X.A (call (.type "list") [v]) (EP X pins σ Q) X.xe s1) X.xe s := by
  obtain ⟨xs, ys, ha, hb, hl, h0, hsz, q⟩ := h
  obtain ⟨us, ru, pu, _⟩ := I.tuple ha
  obtain ⟨vs, rv, pv, _⟩ := I.tuple hb
  have lu := ru.length
  have lv := rv.length
  have hz : xs.length ≤ sizeLine := by
    rw [sizeLine_eq]
    omega
  have pu' : s.heap.IsTuple a us.toArray := pu
  have pv' : s.heap.IsTuple b vs.toArray := pv
  obtain ⟨oa, ea, _⟩ := id pu'
  obtain ⟨ob, eb, _⟩ := id pv'
  refine RZ.call_zipT pu' pv' fun h1 Z U O C G sz kp => ?_
  generalize hN : s.heap.objs.size = N at Z U O C G sz
  refine zl_list (A := X.A) (b0 := s.heap) (s := { s with heap := h1 }) (xs := us) (ys := vs) (I.ok.hd hc) (PySem.W.ktu_apart N a b (hN ▸ Heap.lt_size ea) (hN ▸ Heap.lt_size eb)) pu' pv' (by omega) (by omega) (by omega) (fun c hc => ?_) (by show s.heap.objs.size ≤ h1.objs.size; omega) kp Z U O C G fun h2 ts lt st => ?_
  · rw [hN]
    show N ≤ c ∧ c < h1.objs.size
    rw [sz]
    simp only [List.mem_cons, List.not_mem_nil, or_false] at hc
    rcases hc with e | e | e | e | e <;> rw [e] <;> exact ⟨by show N ≤ _; omega, by show _ < N + 5; omega⟩
  · have hN1 : ({ s with heap := h1 } : Shared).heap.objs.size = N + 5 := sz
    rw [hN1] at st lt ⊢
    have tl := st.len
    obtain ⟨n, hlst⟩ := st.lst
    let l : List (Addr × List V) := (List.range xs.length).map fun i => (ts.getD i 0, [xs.getD i .non, ys.getD i .non])
    have lmem : ∀ p ∈ l, ∃ i, i < xs.length ∧ p = (ts.getD i 0, [xs.getD i .non, ys.getD i .non]) := fun p hp => by
      obtain ⟨i, hi, rfl⟩ := List.mem_map.mp hp
      exact ⟨i, List.mem_range.mp hi, rfl⟩
    have tget : ∀ {i : Nat}, i < xs.length → ts[i]? = some (ts.getD i 0) := fun {i} hi => by
      rw [List.getD_eq_getElem?_getD, List.getElem?_eq_getElem (by omega)]
      rfl
    have lts : l.map (·.1) = ts := by
      refine List.ext_getElem? fun i => ?_
      rw [List.getElem?_map, List.getElem?_map]
      by_cases hi : i < xs.length
      · rw [List.getElem?_range hi, tget hi]
        rfl
      · rw [List.getElem?_eq_none (by rw [List.length_range]; omega), List.getElem?_eq_none (by omega)]
        rfl
    have I2 := Inv.many (h' := h2) (l := l) (S := N + 5) (vs := ts.map V.ref) (its := ts.map Value.ref) I st.keep (fun p hp => ?_) (by rw [lts]; exact st.nd) (by rw [hN]; exact Nat.le_add_right ..) (fun p hp => ?_) (by rw [List.length_map]; omega) ?_ hlst
    · refine ⟨.ref (N + 5), _, I2, rfl, q (N + 5) (ts.map V.ref) _ (fun c o ec => ?_) (I.hok.fresh (by rw [hN]; exact Nat.le_add_right ..)) upd_same (by rw [List.length_map]; omega) fun i x y ex ey => ?_⟩
      · have z := I.hok.lt ec
        have n1 : c ≠ N + 5 := fun y => by
          rw [y, hN] at z
          exact absurd z (Nat.not_lt.mpr (Nat.le_add_right ..))
        have n2 : ∀ p ∈ l, p.1 ≠ c := fun p hp y => by
          obtain ⟨i, hi, rfl⟩ := lmem p hp
          have := (st.new _ (List.mem_of_getElem? (tget hi))).1
          rw [← y] at z
          exact absurd z (Nat.not_lt.mpr this)
        rw [upd_ne n1, layT_none n2]
        exact ec
      · have hi := (List.getElem?_eq_some_iff.mp ex).1
        have nw := st.new _ (List.mem_of_getElem? (tget hi))
        refine ⟨ts.getD i 0, by rw [List.getElem?_map, tget hi]; rfl, I.hok.fresh nw.1, ?_⟩
        rw [upd_ne fun y => nw.2.2 (by rw [y]; exact List.mem_cons_self)]
        refine layT_at (by rw [lts]; exact st.nd) (List.mem_map.mpr ⟨i, List.mem_range.mpr hi, ?_⟩)
        rw [List.getD_eq_getElem?_getD (l := xs), List.getD_eq_getElem?_getD (l := ys), ex, ey]
        rfl
    · obtain ⟨i, hi, rfl⟩ := lmem p hp
      have nw := st.new _ (List.mem_of_getElem? (tget hi))
      exact ⟨nw.1, fun y => nw.2.2 (by rw [← y]; exact List.mem_cons_self)⟩
    · obtain ⟨i, hi, rfl⟩ := lmem p hp
      have gx : xs[i]? = some (xs.getD i .non) := by
        rw [List.getD_eq_getElem?_getD, List.getElem?_eq_getElem hi]
        rfl
      have gy : ys[i]? = some (ys.getD i .non) := by
        rw [List.getD_eq_getElem?_getD, List.getElem?_eq_getElem (by omega)]
        rfl
      obtain ⟨u, hu, r1⟩ := ru.get gx
      obtain ⟨v, hv, r2⟩ := rv.get gy
      exact ⟨by show 2 ≤ sizeLine; decide, [u, v], .cons r1 (.cons r2 .nil), ⟨_, st.at_ i _ u v (tget hi) hu hv, rfl, _, rfl⟩⟩
    · exact vals_of_at (by rw [List.length_map, List.length_map]) fun j x u e1 e2 => by
        rw [List.getElem?_map] at e1 e2
        cases hj : ts[j]? with
        | none => rw [hj] at e1; cases e1
        | some t =>
          rw [hj] at e1 e2
          cases e1
          cases e2
          rfl
def tListZ (K : PySem.W.Frag) (ta : TA) : TE := fun σ H Q => ta σ H fun vs H1 => ∃ a b, vs = [.ref a, .ref b] ∧ kListZ K a b H1 Q
theorem pe_listZ (hc : X.calm = true) (hg : Gl X "list") (hm : X.mg "list" = none) (hg2 : Gl X "zip") (hm2 : X.mg "zip" = none) (ha : PA X [e, e2] ta)
    (na : starEach [.Call (.Name "zip" p2) [e, e2] [] pos2] X.env = (false, eval (.Call (.Name "zip" p2) [e, e2] [] pos2) X.env) :: starEach [] X.env := by rfl) (hs : starEach [e, e2] X.env = (false, eval e X.env) :: starEach [e2] X.env := by rfl) (hpl : (backTo pos2 (starEach [e2] X.env)).any (·.1) = false := by rfl) :
    PE X (.Call (.Name "list" p) [.Call (.Name "zip" p2) [e, e2] [] pos2] [] pos) (tListZ X.K ta) := by
  refine ⟨fun pins s σ H Q I h => ?_⟩
  refine Call_ (ld_blt I hg hm boot_list (PyProof.Rows.callWith_type1 (args_cons (Call_ (ld_blt I hg2 hm2 PyProof.Rows.boot_zip (PyProof.Rows.callWith_type1 (thn (ha.run pos2 pins s σ H _ I h) fun us s1 ⟨vs, H1, I1, r1, q1⟩ => ?_) hs hpl))) na) na))
  obtain ⟨a, b, rfl, q⟩ := q1
  cases r1 with
  | cons r rr =>
    cases rr with
    | cons r' rr =>
      cases rr
      cases r
      cases r'
      exact thn (rl_listZ hc I1 q) fun v s2 h2 => args_nil h2
def tListZS (K : PySem.W.Frag) (te : TE) : TE := fun σ H Q => te σ H fun x H1 => ∃ l a b, x = .ref l ∧ SqL K H1 l [.ref a, .ref b] ∧ kListZ K a b H1 Q
theorem pe_listZS (hc : X.calm = true) (hg : Gl X "list") (hm : X.mg "list" = none) (hg2 : Gl X "zip") (hm2 : X.mg "zip" = none) (he : PE X e te) {sp_ : Pos}
    (na : starEach [.Call (.Name "zip" p2) [.Starred e sp_] [] pos2] X.env = (false, eval (.Call (.Name "zip" p2) [.Starred e sp_] [] pos2) X.env) :: starEach [] X.env := by rfl) (hst : starEach [.Starred e sp_] X.env = [(true, eval e X.env)] := by rfl) :
    PE X (.Call (.Name "list" p) [.Call (.Name "zip" p2) [.Starred e sp_] [] pos2] [] pos) (tListZS X.K te) := by
  refine ⟨fun pins s σ H Q I h => ?_⟩
  refine Call_ (ld_blt I hg hm boot_list (PyProof.Rows.callWith_type1 (args_cons (Call_ (ld_blt I hg2 hm2 PyProof.Rows.boot_zip ?_)) na) na))
  rw [hst]
  refine PySem.W.ks_call (P := fun _ => True) rfl (fun _ _ => ⟨.machine, .inr (.inl rfl), PySem.W.Looks.of_pure rfl⟩) (PySem.W.ks_lone (thn (he.run pins s σ H _ I h) fun v s1 ⟨y, H1, I1, ry, q1⟩ => ?_))
  obtain ⟨l, a, b, rfl, hl, q⟩ := q1
  obtain rfl : v = Value.ref l := ry
  refine StX.star_any I1 (.inr hl) fun us s2 I2 rv => ⟨trivial, ?_⟩
  cases rv with
  | cons r rr =>
    cases rr with
    | cons r' rr =>
      cases rr
      cases r
      cases r'
      exact thn (rl_listZ hc I2 q) fun v s3 h3 => args_nil h3
end
end Eyes

set_option Elab.async false
set_option linter.all false
set_option maxRecDepth 100000
set_option maxHeartbeats 8000000
/-! sorted(set(xs)), xs a list of numbers. -/
namespace Eyes
open PySem PySem.Spec PyProof.Rows L2
theorem ints_at : ∀ {us : List Value} {ks : List Int}, IntsAre us ks → ∀ {j : Nat} {v : Value}, us[j]? = some v → ∃ (k : Int) (t : Tok), ks[j]? = some k ∧ v = .int k t
  | _, _, .nil, _, _, e => by cases e
  | _, _, .cons k t r, 0, v, e => ⟨k, t, rfl, (Option.some.inj e).symm⟩
  | _, _, .cons k t r, j + 1, v, e => ints_at r (j := j) e
section
variable {P : Program} {w : World} {A : Around} {E : Value → Shared → Prop} {s : Shared}
theorem call_setI {l : Addr} {items : Array Value} {xs : List Int} {Q : Value → Shared → Prop} (hh : A.handled = none) (hl : s.heap.IsList l items) (hi : IntsAre items.toList xs) (hb : items.size + 1 < scanBound)
    (q : ∀ (h' : Heap) (tk c : Nat), SetR w h' s.heap.objs.size (fun j => decide (j ∈ xs)) c → c ≤ items.size → (∀ b o, b < s.heap.objs.size → s.heap.get? b = some o → h'.get? b = some o) → Q (.ref s.heap.objs.size) { s with heap := h', toks := tk }) :
    wpAny (model P w) A (call (.type "set") [.ref l]) Q E s := by
  obtain ⟨c, tl, hmro⟩ := PySem.F.called_set.mro
  have m1 := PySem.F.called_set.made; have m2 := PySem.F.called_set.sub
  refine wpAny_call (codeAny_of_tree ?_)
  show wpAny _ _ (callAny (.type "set") _) _ _ _
  refine wpAny_pure ⟨Code.quiet_builtin _ (by decide +kernel), codeAny_builtin F.entry_type_call ?_⟩
  rw [Around.under_plain (weight_type_call_type "set" [.ref l] []) rfl]
  have m3 := PySem.F.called_set.notType; have m4 := PySem.F.called_set.canCreate; have m5 := PySem.F.typeCall_set_1 (.ref l)
  repeat (any_goals (first | assumption | wp_step))
  refine codeAny_mono (new_set1 (.ref l) (E := E) (Q1 := fun ob s₁ => ob = .ref s.heap.objs.size ∧ s₁ = { s with heap := s.heap.push (noSet w) }) ⟨rfl, rfl⟩) fun r s₁ hr => ?_
  cases r with
  | error e => exact hr
  | ok fl =>
    cases fl with
    | ret ob =>
      obtain ⟨rfl, rfl⟩ := hr
      have hS : (s.heap.push (noSet w)).get? s.heap.objs.size = some (noSet w) := Heap.get?_push_size _ rfl
      have hT : Shared.TypeIs { s with heap := s.heap.push (noSet w) } (.ref s.heap.objs.size) "set" := ⟨_, hS, rfl⟩
      have n1 := PySem.F.called_set.init.lookup; have n2 := PySem.F.called_set.init.bind (.ref s.heap.objs.size)
      repeat (any_goals (first | assumption | wp_step))
      refine codeAny_mono (codeAny_call_builtin (R := wants (fun r s₂ => r = .none ∧ ∃ h' tk c, s₂ = { s with heap := h', toks := tk } ∧ SetR w h' s.heap.objs.size (fun j => decide (j ∈ xs)) c ∧ c ≤ items.size ∧
          (∀ b o, b < s.heap.objs.size → s.heap.get? b = some o → h'.get? b = some o)) E) PySem.F.called_set.init.plain PySem.F.entry_set_init (check_set_init_1 hT ?_)) fun r₂ s₂ hr₂ => ?_
      · obtain ⟨ol, hol, hcl, nl, hdl⟩ := hl
        obtain ⟨oc, od, odt, osl⟩ := ol
        simp only at hcl hdl
        subst hcl
        subst hdl
        have at1 : (s.heap.push (noSet w)).get? l = some { cls := .type "list", dict := od, data := .seq items nl, slots := osl } := Heap.get?_push_of_some _ hol
        have f1 := PySem.F.sub_list_set; have f2 := PySem.F.sub_list_frozenset
        have f3 : (Value.type "list" == Value.type "dict") = false := by decide
        have isL : (s.heap.push (noSet w)).IsList l items := ⟨_, at1, rfl, nl, rfl⟩
        unfold Builtin.«set.__init__» noKeywords Builtin.Frozenset.updateFrom
        generalize hPI : pyIter = PI
        wp_walk
        subst hPI
        refine wpAny_pyIter_list isL (wpAny_bind (wpAny_runValue ?_))
        have lS : l < s.heap.objs.size := Heap.lt_size hol
        have hh3 : A.in1.in1.in1.handled = none := by simp [hh]
        have neI : l ≠ (s.heap.push (noSet w)).objs.size := by
          rw [Heap.size_push]
          exact Nat.ne_of_lt (Nat.lt_succ_of_lt lS)
        have nin : s.heap.objs.size ∉ [(s.heap.push (noSet w)).objs.size, l] := by
          rw [Heap.size_push]
          simp only [List.mem_cons, List.mem_singleton, List.not_mem_nil, or_false, not_or]
          exact ⟨Nat.ne_of_lt (Nat.lt_succ_self _), Nat.ne_of_gt lS⟩
        have len : xs.length = items.size := by
          have z := IntsAre.length hi
          rw [Array.length_toList] at z
          exact z.symm
        have val : ∀ (i : Nat) (v : Value), items[i]? = some v → ∃ z t, xs[i]? = some z ∧ v = .int z t := fun i v hv => by
          obtain ⟨k, t, e1, e2⟩ := ints_at hi (by rw [Array.getElem?_toList]; exact hv)
          exact ⟨k, t, e1, e2⟩
        refine set_update_ints ((Walks.list hh3 _ l neI items).toS) s.heap.objs.size nin xs len.symm (by rw [len]; exact hb) val (items.size - 0) 0 _ (by omega) (Nat.zero_le _)
          ⟨⟨_, Heap.get?_push_size _ rfl, rfl, rfl⟩, (isL.push _)⟩ ⟨0, Nat.le_refl _, setR_new_at (Heap.get?_push_of_some _ hS)⟩ fun s' cc hm lL T => ?_
        obtain ⟨h', g', d', tk', os'⟩ := s'
        obtain rfl : g' = s.gens := hm.gens
        obtain rfl : d' = s.drawn := hm.drawn
        obtain rfl : os' = s.os := hm.os
        show wpAny _ _ _ _ _ _
        refine wpAny_pure ?_
        show wpAny _ _ (ret Value.none) _ _ _
        refine wpAny_pure ⟨rfl, h', tk', cc, rfl, T, lL, fun b o hb e => ?_⟩
        refine hm.heap b o ?_ (Heap.get?_push_of_some _ (Heap.get?_push_of_some _ e))
        rw [Heap.size_push]
        simp only [List.mem_cons, List.mem_singleton, List.not_mem_nil, or_false, not_or]
        exact ⟨Nat.ne_of_lt hb, Nat.ne_of_lt (Nat.lt_succ_of_lt hb)⟩
      · cases r₂ with
        | error e => exact hr₂
        | ok fl₂ =>
          cases fl₂ with
          | ret r =>
            obtain ⟨rfl, h', tk, cc, rfl, T, lL, kp⟩ := hr₂
            repeat (any_goals (first | assumption | wp_step))
            exact q _ _ _ T lL kp
          | _ => exact hr₂.elim
    | _ => exact hr.elim
end
def tSortedSetI (K : PySem.W.Frag) (te : TE) : TE := fun σ H Q => te σ H fun x H1 => ∃ (a : Addr) (xs : List Int), x = .ref a ∧ SqL K H1 a (xs.map V.int) ∧ xs.length < 64 ∧
  ∀ (ys : List Int) (p : Addr), ys.Pairwise (· < ·) → (∀ y, y ∈ ys ↔ y ∈ xs) → ys.length ≤ xs.length → H1 p = none → Q (.ref p) (upd H1 p (.lst (ys.map V.int)))
section
variable {X : Cx} {K : PySem.W.Frag} {e : Expr} {te : TE} {p1 p2 q1 q2 : Pos}
theorem pe_sortedSetI (hK : X.K = K) (hc : X.calm = true) (he : PE X e te) (hg1 : Gl X "sorted") (hm1 : X.mg "sorted" = none) (hg2 : Gl X "set") (hm2 : X.mg "set" = none)
    (hs : starEach [.Call (.Name "set" p2) [e] [] q2] X.env = (false, eval (.Call (.Name "set" p2) [e] [] q2) X.env) :: starEach [] X.env := by rfl)
    (hs2 : starEach [e] X.env = (false, eval e X.env) :: starEach [] X.env := by rfl) :
    PE X (.Call (.Name "sorted" p1) [.Call (.Name "set" p2) [e] [] q2] [] q1) (tSortedSetI K te) := by
  subst hK
  refine ⟨fun pins s σ H Q I h => ?_⟩
  refine wpAny_Call_Name_kw (ld_blt I hg1 hm1 PyProof.Rows.boot_sorted ?_)
  refine PyProof.Rows.callWith_builtin1 ?_ hs rfl
  rw [hs]
  refine Calls.spliced_cons ?_
  refine wpAny_Call_Name_kw (ld_blt I hg2 hm2 PyProof.Rows.boot_set ?_)
  refine PyProof.Rows.callWith_type1 ?_ hs2 rfl
  rw [hs2]
  refine Calls.spliced_cons (thn (he.run pins s σ H _ I h) fun u s1 ⟨x, H1, I1, rx, a, xs, ex, hl, hz, q⟩ => ?_)
  subst ex
  obtain rfl : u = Value.ref a := rx
  obtain ⟨its, rv, pl, _⟩ := I1.list hl
  have lx : xs.length = its.length := by
    have y := rv.length
    rw [List.length_map] at y
    exact y
  refine Calls.spliced_nil ?_
  have cm := I1.ok.hd hc
  refine call_setI cm pl.isList (xs := xs) (by simpa using rv.ints) (by rw [List.size_toArray, show scanBound = 4096 from rfl]; omega) fun h' tk cc T lL kp => ?_
  refine Calls.spliced_nil ?_
  have k1 : ∀ b o, s1.heap.get? b = some o → h'.get? b = some o := fun b o e => kp b o (Heap.lt_size e) e
  have nn : s1.heap.objs.size ≤ h'.objs.size := Nat.le_of_lt T.lt
  rw [List.size_toArray] at lL
  refine sorted_set (s := { s1 with heap := h', toks := tk }) T cm (by omega) fun s2 p out c ys k2 g2 o2 hp2 ho2 st so mm ll => ?_
  have kk : ∀ b o, s1.heap.get? b = some o → s2.heap.get? b = some o := fun b o e => k2 b o (k1 b o e)
  have np : s1.heap.objs.size ≤ p := Nat.le_trans nn hp2
  have fr : H1 p = none := I1.hok.fresh np
  have ly : (ys.map V.int).length ≤ sizeLine := by
    rw [List.length_map, ll, sizeLine_eq]
    omega
  have J : Inv X pins σ (upd H1 p (.lst (ys.map V.int))) { s1 with heap := s2.heap, gens := s2.gens, drawn := s2.drawn, toks := s2.toks } :=
    I1.call (ch := []) (Un.laid kk np fr) (I1.hok.laid kk np ⟨ly, out.toList, c, vals_of_ints st, ho2⟩) (by rw [g2]; exact I1.bare) (fun _ y => nomatch y)
  have es : s2 = { s1 with heap := s2.heap, gens := s2.gens, drawn := s2.drawn, toks := s2.toks } := by
    cases s2
    cases s1
    cases o2
    rfl
  rw [es]
  exact ⟨.ref p, _, J, rfl, q ys p so (fun y => by rw [mm]; exact decide_eq_true_iff) (by omega) fr⟩
end
end Eyes

set_option Elab.async false
set_option linter.all false
set_option maxRecDepth 100000
/-! What is_parting takes for a parting is one. -/
namespace Eyes
open PySem PySem.Spec PyProof.Rows L2
def ndats (p : List Nat) : List PyData := p.map fun x : Nat => PyData.int (x : Int)
theorem ndats_get {p : List Nat} {i x : Nat} (h : p[i]? = some x) : (ndats p)[i]? = some (.int (x : Int)) := by
  unfold ndats
  rw [List.getElem?_map, h]
  rfl
theorem reps_ndats {H : Hp} : ∀ p : List Nat, Reps H (nvs p) (ndats p)
  | [] => .nil
  | _ :: p => .cons (.int _) (reps_ndats p)
theorem shaped_ndats {p : List Nat} : ∀ e ∈ ndats p, SeqAt.shaped e = true := fun e he => by
  obtain ⟨x, _, rfl⟩ := List.mem_map.mp he
  rfl
theorem eqv_int {i j : Int} : PyData.eqv (.int i) (.int j) = decide (i = j) := by
  show (i == j) = decide (i = j)
  rw [Bool.eq_iff_iff]
  simp
theorem partD_of {n : Nat} {p : List Nat} (h : IsP n p) (h1 : 1 ≤ n) : partD (.tuple (ndats p)) = true := by
  show (decide (ndats p ≠ []) && (List.range (ndats p).length).all fun k => itemD (ndats p) k) = true
  have hl : (ndats p).length = n := by
    unfold ndats
    rw [List.length_map]
    exact h.len
  rw [Bool.and_eq_true, hl, List.all_eq_true]
  refine ⟨decide_eq_true fun z => by rw [z] at hl; simp at hl; omega, fun k hk => ?_⟩
  have hk := List.mem_range.mp hk
  have lo := h.lo (k + 1) (by omega) (by omega)
  have g := ndats_get (itm_get (p := p) (x := k + 1) (by omega) (by rw [h.len]; omega))
  rw [Nat.add_sub_cancel] at g
  have g2 := ndats_get (itm_get (p := p) (x := itm p (k + 1)) lo.1 (by rw [h.len]; omega))
  have e : (((itm p (k + 1) : Nat) : Int) - 1).toNat = itm p (k + 1) - 1 := by omega
  rw [itemD_int g (by
    show (decide ((1 : Int) ≤ (itm p (k + 1) : Nat)) && decide (((itm p (k + 1) : Nat) : Int) ≤ (k : Int) + 1)) = true
    rw [Bool.and_eq_true]
    exact ⟨decide_eq_true (by omega), decide_eq_true (by omega)⟩) (e := .int (itm p (itm p (k + 1)) : Nat)) (by rw [e]; exact g2), eqv_int, h.rt (k + 1) (by omega) (by omega)]
  exact decide_eq_true rfl
theorem partD_isP {d : PyData} (h : partD d = true) : ∃ p, d = .tuple (ndats p) ∧ 1 ≤ p.length ∧ IsP p.length p := by
  cases d with
  | tuple ds =>
    have h : (decide (ds ≠ []) && (List.range ds.length).all fun k => itemD ds k) = true := h
    rw [Bool.and_eq_true, List.all_eq_true] at h
    obtain ⟨h0, h⟩ := h
    have h0 : ds ≠ [] := of_decide_eq_true h0
    have one : ∀ k, k < ds.length → ∃ x : Nat, ds[k]? = some (.int (x : Int)) ∧ 1 ≤ x ∧ x ≤ k + 1 ∧ ∃ e, ds[x - 1]? = some e ∧ PyData.eqv e (.int (x : Int)) = true := fun k hk => by
      have hi := h k (List.mem_range.mpr hk)
      have hd : ds[k]? = some ds[k] := List.getElem?_eq_getElem hk
      generalize ds[k] = d at hd
      cases hn : numD d 1 ((k : Int) + 1) with
      | false =>
        rw [itemD_no hd hn] at hi
        cases hi
      | true =>
        cases d with
        | int i =>
          have h2 : (decide (1 ≤ i) && decide (i ≤ (k : Int) + 1)) = true := hn
          rw [Bool.and_eq_true] at h2
          have a1 := of_decide_eq_true h2.1
          have a2 := of_decide_eq_true h2.2
          have he : ds[(i - 1).toNat]? = some (ds[(i - 1).toNat]'(by omega)) := List.getElem?_eq_getElem _
          rw [itemD_int hd hn he] at hi
          refine ⟨i.toNat, by rw [hd, show ((i.toNat : Nat) : Int) = i by omega], by omega, by omega, _, by rw [show i.toNat - 1 = (i - 1).toNat by omega]; exact he, by rw [show ((i.toNat : Nat) : Int) = i by omega]; exact hi⟩
        | _ => cases hn
    have ex : ∃ p : List Nat, ds = ndats p := by
      refine ⟨ds.map fun d => match d with | .int i => i.toNat | _ => 0, ?_⟩
      unfold ndats
      rw [List.map_map]
      refine List.ext_getElem? fun k => ?_
      rw [List.getElem?_map]
      by_cases hk : k < ds.length
      · obtain ⟨x, hx, _⟩ := one k hk
        rw [hx]
        show _ = some (PyData.int (((x : Int).toNat : Nat) : Int))
        rw [show (((x : Int).toNat : Nat) : Int) = (x : Int) by omega]
      · rw [List.getElem?_eq_none (by omega)]
        rfl
    obtain ⟨p, rfl⟩ := ex
    have hl : (ndats p).length = p.length := List.length_map ..
    have two : ∀ x, 1 ≤ x → x ≤ p.length → 1 ≤ itm p x ∧ itm p x ≤ x ∧ itm p (itm p x) = itm p x := fun x h1 h2 => by
      obtain ⟨y, hy, y1, y2, e, he, hq⟩ := one (x - 1) (by rw [hl]; omega)
      have g := ndats_get (itm_get (p := p) (x := x) h1 h2)
      rw [g] at hy
      have hy := Option.some.inj hy
      injection hy with hy
      have hy : itm p x = y := Int.ofNat.inj hy
      subst hy
      have g2 := ndats_get (itm_get (p := p) (x := itm p x) y1 (by omega))
      rw [g2] at he
      obtain rfl := Option.some.inj he
      rw [eqv_int] at hq
      have hq := of_decide_eq_true hq
      exact ⟨y1, by omega, Int.ofNat.inj hq⟩
    refine ⟨p, rfl, ?_, rfl, fun x h1 h2 => ⟨(two x h1 h2).1, (two x h1 h2).2.1⟩, fun x h1 h2 => (two x h1 h2).2.2⟩
    cases p with
    | nil => exact absurd rfl h0
    | cons x p => exact Nat.succ_le_succ (Nat.zero_le _)
  | _ => cases h
end Eyes

set_option Elab.async false
set_option linter.all false
set_option maxRecDepth 100000
set_option maxHeartbeats 4000000
namespace Eyes
open PySem PySem.Spec PyProof.Rows L2 Evl TL
/-! ### met, together, judged pairs -/
def spTogether : Sp := fun vs H Q _ => ∃ n : Nat, vs = [.int n] ∧ 1 ≤ n ∧ n ≤ 1000 ∧ ∀ r H', Ex H H' → H r = none → H' r = some (.tup (nvs (List.replicate n 1))) → Q (.ref r) H'
theorem rep_tup {H : Hp} {a : Addr} {p : List Nat} (h : Rep H (.ref a) (.tuple (ndats p))) : H a = some (.tup (nvs p)) := by
  have key : ∀ (p : List Nat) (xs : List V), Reps H xs (ndats p) → xs = nvs p := fun p => by
    induction p with
    | nil => intro xs h; cases h; rfl
    | cons x p ih =>
      intro xs h
      cases h with
      | cons h1 h2 =>
        cases h1
        rw [ih _ h2]
        rfl
  cases h with
  | tup h1 h2 => rw [h1, key p _ h2]
def keys2 (p q : List Nat) (n : Nat) : List (List L2.Key) := (List.range n).map fun k => [.inl (itm p (k + 1) : Int), .inl (itm q (k + 1) : Int)]
theorem keys2_met {n : Nat} {p q : List Nat} : firsts (keys2 p q n) = metN n [p, q] := by
  unfold metN
  refine firsts_same (by unfold keys2 keysN; rw [List.length_map, List.length_map]) fun i j a b c d ha hb hc hd => ?_
  unfold keys2 at ha hb
  unfold keysN at hc hd
  rw [List.getElem?_map] at ha hb hc hd
  obtain ⟨i1, hi, rfl⟩ := Option.map_eq_some_iff.mp ha
  obtain ⟨j1, hj, rfl⟩ := Option.map_eq_some_iff.mp hb
  rw [hi] at hc
  rw [hj] at hd
  obtain rfl := Option.some.inj hc
  obtain rfl := Option.some.inj hd
  simp
  omega
def spMet (K : PySem.W.Frag) : Sp := fun vs H Q _ => ∃ (n : Nat) (l a b : Addr) (p q : List Nat), vs = [.ref l] ∧ SqL K H l [.ref a, .ref b] ∧ SqT K H a (nvs p) ∧ SqT K H b (nvs q) ∧ IsP n p ∧ IsP n q ∧ 1 ≤ n ∧ n ≤ 4096 ∧ ∀ r H', Ex H H' → H r = none → H' r = some (.tup (nvs (metN n [p, q]))) → Q (.ref r) H'
def pairD (n : Nat) (d : PyData) : Bool := match d with
  | .tuple [a, b] => numD a 1 n && numD b 1 n
  | _ => false
section
variable {P : Program} {w : World} {K : PySem.W.Frag} {mg : Str → Option Value} {base : Heap} {AA : Adr}
theorem ok_met (T : Txt K mg AA) : Pr P w K mg base "met" s_met p_met 2 (spMet K) := by
  refine pr_mk T.f_met sc_met (fun vs H Q E h => ?_) (fun f cdv A outer s H vs Q E hr h => ?_)
  · obtain ⟨n, l, a, b, p, q, rfl, _⟩ := h
    rfl
  · obtain ⟨n, l, a, b, p, q, rfl, hl, ha, hb, hP, hQ, h1, hn, qq⟩ := h
    refine ⟨_, (pss_one (ps_ret (pcall (ok_by_keys T) hr (pa_cons (pe_listZS rfl (by rfl) T.n_list (by rfl) T.n_zip (pv 0)) pa_nil)))), ?_⟩
    refine ⟨_, rfl, l, a, b, rfl, hl, nvs p, nvs q, ha, hb, by rw [nvs_len, nvs_len, hP.len, hQ.len], by rw [nvs_len, hP.len]; omega, by rw [nvs_len, hP.len]; omega, fun z us H2 e2 nz hz hus hel => ?_⟩
    rw [nvs_len, hP.len] at hus
    have kl : (keys2 p q n).length = n := by unfold keys2; rw [List.length_map, List.length_range]
    refine ⟨z, us, keys2 p q n, rfl, sq_of hz, by rw [kl]; exact hus, by rw [kl]; exact hn, fun i u k hu hk => ?_, fun r H3 e3 nr hr3 => ?_⟩
    · have hi : i < n := by rw [← hus]; exact (List.getElem?_eq_some_iff.mp hu).1
      obtain ⟨t, ht, _, ht2⟩ := hel i _ _ (nvs_get (itm_get (x := i + 1) (by omega) (by rw [hP.len]; omega))) (nvs_get (itm_get (x := i + 1) (by omega) (by rw [hQ.len]; omega)))
      rw [hu] at ht
      obtain rfl := Option.some.inj ht
      unfold keys2 at hk
      rw [List.getElem?_map, List.getElem?_range hi] at hk
      obtain rfl := Option.some.inj hk
      exact ⟨t, rfl, ht2⟩
    · rw [keys2_met] at hr3
      exact qq r H3 (e2.trans e3) (fresh_back e2 nr) hr3
def spPair (K : PySem.W.Frag) : Sp := fun vs H Q _ => ∃ (v : V) (d : PyData) (n : Nat), vs = [v, .int n] ∧ Rep H v d ∧ ∀ H', Ex H H' → Q (.bl (pairD n d)) H'
def okV (d : PyData) : Prop := d.depth < 5 ∧ wid d ≤ 4096 ∧ PyData.canLay0 d = true
theorem layAll_mem : ∀ {ds : List PyData} {e : PyData}, PyData.canLayAll0 ds = true → e ∈ ds → PyData.canLay0 e = true
  | [], _, _, h => by cases h
  | x :: xs, e, h, he => by
    have h : (PyData.canLay0 x && PyData.canLayAll0 xs) = true := h
    rw [Bool.and_eq_true] at h
    rcases List.mem_cons.mp he with rfl | he
    · exact h.1
    · exact layAll_mem h.2 he
theorem okV.item {ds : List PyData} {e : PyData} (h : okV (.tuple ds) ∨ okV (.list ds)) (he : e ∈ ds) : okV e := by
  obtain ⟨i, hi⟩ := List.getElem?_of_mem he
  have a := depth_get hi
  have b := wid_get hi
  rcases h with ⟨h1, h2, h3⟩ | ⟨h1, h2, h3⟩
  all_goals
    simp only [PyData.depth] at h1
    simp only [wid] at h2
    exact ⟨by omega, by omega, layAll_mem h3 he⟩
theorem okV.shaped {d : PyData} (h : okV d) : SeqAt.shaped d = true := by
  unfold SeqAt.shaped
  rw [h.2.2, decide_eq_true (by have := h.1; omega)]
  rfl
theorem okV.part {ds : List PyData} (h : okV (.tuple ds)) : ds.length ≤ 4096 ∧ ∀ e ∈ ds, SeqAt.shaped e = true := by
  have h2 := h.2.1
  simp only [wid] at h2
  exact ⟨by omega, fun e he => (okV.item (.inl h) he).shaped⟩
def lenD (d : PyData) : Nat := match d with
  | .tuple ds => ds.length
  | _ => 0
def refP (v1 : V) (d1 : PyData) (v2 : V) (d2 : PyData) : Option V := if partD d1 = true then (if partD d2 = true ∧ lenD d1 = lenD d2 then none else some v2) else some v1
def spTwoP (AA : Adr) (good : Nat → List Nat → List Nat → Hp → VK → Prop) : Sp := fun vs H Q E => ∃ v1 d1 v2 d2, vs = [v1, v2] ∧ Rep H v1 d1 ∧ okV d1 ∧ Rep H v2 d2 ∧ okV d2 ∧
  ((∃ n p q, d1 = .tuple (ndats p) ∧ d2 = .tuple (ndats q) ∧ 1 ≤ n ∧ n ≤ 4096 ∧ IsP n p ∧ IsP n q ∧ good n p q H Q) ∨
    ∃ v, refP v1 d1 v2 d2 = some v ∧ ∀ d H', H d = none → Ex H H' → H' d = some (.xd [("value", v)]) → E (.ref AA.InvalidParting) (some d) H')
theorem ok_InvalidParting___init (T : Txt K mg AA) {f : Addr} {fd : FuncData} (F : Fun K "__init__" "InvalidParting.__init__" s_InvalidParting___init f fd) (hb : Binds K fd p_InvalidParting___init []) : FnOk P w K mg base CX0 1 f fd p_InvalidParting___init (spErr1 AA.InvalidParting "value") :=
  F.ok sc_InvalidParting___init (fun vs H Q E h => by
    obtain ⟨a, v, rfl, _⟩ := h
    rfl) fun cdv A outer s H vs Q E hr h => by
    obtain ⟨a, v, rfl, ha, q⟩ := h
    refine ⟨_, (pss_one (ps_ost (pv 0) (pv 1))), ?_⟩
    exact ⟨v, rfl, .ref a, rfl, a, AA.InvalidParting, rfl, T.e_InvalidParting.oex, T.a_InvalidParting_value, .inl ⟨ha, fun dx hd hne => q dx hd hne⟩⟩
theorem ok_check_partings (T : Txt K mg AA) : PrX P w K mg base "check_partings" s_check_partings p_check_partings 4 (spTwoP AA fun _ _ _ H Q => ∀ H', Ex H H' → Q .non H') := by
  refine prx_mk T.f_check_partings sc_check_partings (fun vs H Q E h => ?_) (fun f cdv A outer s H vs Q E hr h tk => ?_)
  · obtain ⟨v1, d1, v2, d2, rfl, _⟩ := h
    rfl
  · obtain ⟨v1, d1, v2, d2, rfl, r1, o1, r2, o2, h⟩ := h
    refine ⟨_, (pss_cons (ps_for (passes_of rfl) rfl (pi_tup (pe_tup (pa_cons (pv 0) (pa_cons (pv 1) pa_nil)))) (pg_name (i := 2) sc_check_partings.nd rfl (.inl rfl))
      (pss_one (ps_if (pt_not (pt_val (pcall (ok_is_parting T) hr (pa_cons (pv 2) pa_nil))))
      (pss_one (ps_raise1 T.e_InvalidParting (fun _ _ F b => ok_InvalidParting___init T F b) rfl tk hr (pa_cons (pv 2) pa_nil)))
      pss_nil)))
      (pss_one (ps_if (pt_cmpR op_ne (pe_callB (call_len_seqK (K := K) rfl) (by rfl) T.n_len PySem.boot_len (pa_cons (pv 0) pa_nil)) (pe_callB (call_len_seqK (K := K) rfl) (by rfl) T.n_len PySem.boot_len (pa_cons (pv 1) pa_nil)) (nomark _))
      (pss_one (ps_raise1 T.e_InvalidParting (fun _ _ F b => ok_InvalidParting___init T F b) rfl tk hr (pa_cons (pv 1) pa_nil)))
      pss_nil))), ?_⟩
    have hgood : partD d1 = true → partD d2 = true → lenD d1 = lenD d2 → ∀ H', Ex H H' → Q .non H' := fun g1 g2 g3 => by
      rcases h with ⟨n, p, q, _, _, _, _, _, _, hh⟩ | ⟨v, hv, _⟩
      · exact hh
      · unfold refP at hv
        rw [if_pos g1, if_pos ⟨g2, g3⟩] at hv
        cases hv
    have hbad : ∀ v, refP v1 d1 v2 d2 = some v → ∀ d H', H d = none → Ex H H' → H' d = some (.xd [("value", v)]) → E (.ref AA.InvalidParting) (some d) H' := fun v hv => by
      rcases h with ⟨n, p, q, rfl, rfl, h1, _, hP, hQ, _⟩ | ⟨v', hv', hh⟩
      · unfold refP at hv
        rw [if_pos (partD_of hP h1), if_pos ⟨partD_of hQ h1, by
          show (ndats p).length = (ndats q).length
          unfold ndats
          rw [List.length_map, List.length_map, hP.len, hQ.len]⟩] at hv
        cases hv
      · rw [hv] at hv'
        cases hv'
        exact hh
    refine ⟨_, rfl, _, rfl, by show 2 ≤ sizeLine; decide, fun t nt => ⟨t, rfl, ⟨[v1, v2], st_of upd_same⟩, ?_⟩⟩
    have e0 : Ex H (upd H t (.tup [v1, v2])) := Ex.new nt
    refine for_tup (xs := [v1, v2]) (fun i σ H' => ∃ y, σ = [some v1, some v2, y] ∧ Ex (upd H t (.tup [v1, v2])) H' ∧ (1 ≤ i → partD d1 = true) ∧ (2 ≤ i → partD d2 = true)) ⟨none, rfl, Ex.refl _, fun z => absurd z (by decide), fun z => absurd z (by decide)⟩ (fun i σ H' _ hp => ?_) (fun i x σ H' hx hp => ?_) (fun σ H' hp => ?_)
    · obtain ⟨_, _, e, _⟩ := hp
      exact ex_t e (st_of upd_same)
    · obtain ⟨y, rfl, e, p1, p2⟩ := hp
      have e1 := e0.trans e
      obtain ⟨d, r, o, f1, f2⟩ : ∃ d, Rep H x d ∧ okV d ∧ (partD d = false → refP v1 d1 v2 d2 = some x) ∧ (partD d = true → (1 ≤ i + 1 → partD d1 = true) ∧ (2 ≤ i + 1 → partD d2 = true)) := by
        match i, hx, p1, p2 with
        | 0, hx, p1, p2 =>
          obtain rfl := Option.some.inj hx
          exact ⟨d1, r1, o1, fun z => by unfold refP; rw [if_neg (by rw [z]; simp)], fun z => ⟨fun _ => z, fun z => absurd z (by decide)⟩⟩
        | 1, hx, p1, p2 =>
          obtain rfl := Option.some.inj hx
          have g1 := p1 (Nat.le_refl _)
          exact ⟨d2, r2, o2, fun z => by unfold refP; rw [if_pos g1, if_neg (fun h => by rw [z] at h; cases h.1)], fun z => ⟨fun _ => g1, fun _ => z⟩⟩
      refine ⟨_, rfl, x, d, rfl, r.mono e1, fun ds hd => by subst hd; exact o.part, fun H2 e2 => ⟨_, rfl, ?_⟩⟩
      cases hb : partD d with
      | true => exact iteF ⟨_, rfl, e.trans e2, (f2 hb).1, (f2 hb).2⟩
      | false => exact iteT ⟨x, rfl, raise1_by fun dd hd => hbad x (f1 hb) dd _ (fresh_back (e1.trans e2) hd) ((e1.trans e2).trans (Ex.new hd)) upd_same⟩
    · obtain ⟨y, rfl, e, p1, p2⟩ := hp
      have e1 := e0.trans e
      have g1 := p1 (by show 1 ≤ 2; decide)
      have g2 := p2 (by show 2 ≤ 2; decide)
      obtain ⟨p, hd1, _, _⟩ := partD_isP g1
      obtain ⟨q, hd2, _, _⟩ := partD_isP g2
      subst hd1 hd2
      cases r1 with
      | @tup a1 xs1 _ hx1 hR1 =>
      cases r2 with
      | @tup a2 xs2 _ hx2 hR2 =>
      refine ⟨_, rfl, a1, xs1, rfl, .inr (ex_t e1 (st_of hx1)), _, rfl, a2, xs2, rfl, .inr (ex_t e1 (st_of hx2)), rfl, _, rfl, ite2 (fun h0 => ?_) (fun h0 => ?_)⟩
      · refine ⟨_, rfl, raise1_by fun dd hd => hbad _ ?_ dd _ (fresh_back e1 hd) (e1.trans (Ex.new hd)) upd_same⟩
        unfold refP
        rw [if_pos g1, if_neg]
        rintro ⟨_, z⟩
        have z : (ndats p).length = (ndats q).length := z
        rw [hR1.length, hR2.length, z] at h0
        simp at h0
      · refine hgood g1 g2 ?_ _ e1
        show (ndats p).length = (ndats q).length
        rw [← hR1.length, ← hR2.length]
        have h3 : decide (V.int (xs1.length : Int) = V.int (xs2.length : Int)) = true := by
          cases ee : decide (V.int (xs1.length : Int) = V.int (xs2.length : Int)) with
          | true => rfl
          | false => rw [ee] at h0; exact absurd rfl h0
        have h4 := of_decide_eq_true h3
        injection h4 with h4
        omega
end
end Eyes

set_option Elab.async false
set_option linter.all false
set_option maxRecDepth 100000
set_option maxHeartbeats 4000000
namespace Eyes
open PySem PySem.Spec PyProof.Rows L2 Evl TL
theorem two_join {n : Nat} {p q : List Nat} (hP : IsP n p) (hQ : IsP n q) : mrgs (alone n) ([p, q].flatMap (less n)) = joinN n p q :=
  joined_cons hP fun z hz => by rw [List.mem_singleton.mp hz]; exact hQ
abbrev spMeetX (AA : Adr) : Sp := spTwoP AA fun n p q H Q => ∀ r H', Ex H H' → H r = none → H' r = some (.tup (nvs (metN n [p, q]))) → Q (.ref r) H'
abbrev spJoinX (AA : Adr) : Sp := spTwoP AA fun n p q H Q => ∀ r H', Ex H H' → H r = none → H' r = some (.tup (nvs (joinN n p q))) → Q (.ref r) H'
abbrev spWithinX (AA : Adr) : Sp := spTwoP AA fun n p q H Q => ∀ H', Ex H H' → Q (.bl (inn p q)) H'
theorem Rep.nvs' {H : Hp} {v : V} {p : List Nat} (h : Rep H v (.tuple (ndats p))) : ∃ a, v = .ref a ∧ H a = some (.tup (nvs p)) := by
  cases h with
  | @tup a xs _ h1 h2 => exact ⟨a, rfl, rep_tup (.tup h1 h2)⟩
section
variable {P : Program} {w : World} {K : PySem.W.Frag} {mg : Str → Option Value} {base : Heap} {AA : Adr}
theorem ok_meet_of (T : Txt K mg AA) : PrX P w K mg base "meet_of" s_meet_of p_meet_of 5 (spMeetX AA) := by
  refine prx_mk T.f_meet_of sc_meet_of (fun vs H Q E h => ?_) (fun f cdv A outer s H vs Q E hr h tk => ?_)
  · obtain ⟨v1, d1, v2, d2, rfl, _⟩ := h
    rfl
  · obtain ⟨v1, d1, v2, d2, rfl, r1, o1, r2, o2, h⟩ := h
    refine ⟨_, (pss_cons (ps_expr (pcallX (ok_check_partings T) hr tk (pa_cons (pv 0) (pa_cons (pv 1) pa_nil))))
      (pss_one (ps_ret (pcall (ok_met T) hr (pa_cons (pe_lst (pa_cons (pv 0) (pa_cons (pv 1) pa_nil))) pa_nil))))), ?_⟩
    refine ⟨_, rfl, _, rfl, v1, d1, v2, d2, rfl, r1, o1, r2, o2, ?_⟩
    rcases h with ⟨n, p, q, e1, e2, h1, hn, hP, hQ, hh⟩ | ⟨v, hv, hh⟩
    · refine .inl ⟨n, p, q, e1, e2, h1, hn, hP, hQ, fun H2 x2 => ?_⟩
      subst e1 e2
      obtain ⟨a, rfl, ha⟩ := r1.nvs'
      obtain ⟨b, rfl, hb⟩ := r2.nvs'
      refine ⟨_, rfl, _, rfl, by show 2 ≤ sizeLine; decide, fun l nl => ?_⟩
      have x3 := x2.trans (Ex.new (o := .lst [.ref a, .ref b]) nl)
      exact ⟨n, l, a, b, p, q, rfl, sq_of upd_same, st_of (x3 _ _ ha), st_of (x3 _ _ hb), hP, hQ, h1, hn, fun r H4 x4 nr hr4 => hh r H4 (x3.trans x4) (fresh_back x3 nr) hr4⟩
    · exact .inr ⟨v, hv, hh⟩
theorem ok_join_of (T : Txt K mg AA) : PrX P w K mg base "join_of" s_join_of p_join_of 5 (spJoinX AA) := by
  refine prx_mk T.f_join_of sc_join_of (fun vs H Q E h => ?_) (fun f cdv A outer s H vs Q E hr h tk => ?_)
  · obtain ⟨v1, d1, v2, d2, rfl, _⟩ := h
    rfl
  · obtain ⟨v1, d1, v2, d2, rfl, r1, o1, r2, o2, h⟩ := h
    refine ⟨_, (pss_cons (ps_expr (pcallX (ok_check_partings T) hr tk (pa_cons (pv 0) (pa_cons (pv 1) pa_nil))))
      (pss_one (ps_ret (pcall (ok_joined T) hr (pa_cons (pe_lst (pa_cons (pv 0) (pa_cons (pv 1) pa_nil))) pa_nil))))), ?_⟩
    refine ⟨_, rfl, _, rfl, v1, d1, v2, d2, rfl, r1, o1, r2, o2, ?_⟩
    rcases h with ⟨n, p, q, e1, e2, h1, hn, hP, hQ, hh⟩ | ⟨v, hv, hh⟩
    · refine .inl ⟨n, p, q, e1, e2, h1, hn, hP, hQ, fun H2 x2 => ?_⟩
      subst e1 e2
      obtain ⟨a, rfl, ha⟩ := r1.nvs'
      obtain ⟨b, rfl, hb⟩ := r2.nvs'
      refine ⟨_, rfl, _, rfl, by show 2 ≤ sizeLine; decide, fun l nl => ?_⟩
      have x3 := x2.trans (Ex.new (o := .lst [.ref a, .ref b]) nl)
      refine ⟨n, l, [.ref a, .ref b], [p, q], rfl, hn, by show 2 ≤ 200; decide, by show 0 < 2; decide, sq_of upd_same, ⟨rfl, fun i u hu => ?_⟩, fun r H4 x4 nr hr4 => hh r H4 (x3.trans x4) (fresh_back x3 nr) (by rw [← two_join hP hQ]; exact hr4)⟩
      match i, hu with
      | 0, hu =>
        obtain rfl := Option.some.inj hu
        exact ⟨a, p, rfl, rfl, st_of (x3 _ _ ha), hP⟩
      | 1, hu =>
        obtain rfl := Option.some.inj hu
        exact ⟨b, q, rfl, rfl, st_of (x3 _ _ hb), hQ⟩
    · exact .inr ⟨v, hv, hh⟩
theorem ok_is_within (T : Txt K mg AA) : PrX P w K mg base "is_within" s_is_within p_is_within 5 (spWithinX AA) := by
  refine prx_mk T.f_is_within sc_is_within (fun vs H Q E h => ?_) (fun f cdv A outer s H vs Q E hr h tk => ?_)
  · obtain ⟨v1, d1, v2, d2, rfl, _⟩ := h
    rfl
  · obtain ⟨v1, d1, v2, d2, rfl, r1, o1, r2, o2, h⟩ := h
    refine ⟨_, (pss_cons (ps_expr (pcallX (ok_check_partings T) hr tk (pa_cons (pv 0) (pa_cons (pv 1) pa_nil))))
      (pss_one (ps_ret (pcall (ok_within T) hr (pa_cons (pv 0) (pa_cons (pv 1) pa_nil)))))), ?_⟩
    refine ⟨_, rfl, _, rfl, v1, d1, v2, d2, rfl, r1, o1, r2, o2, ?_⟩
    rcases h with ⟨n, p, q, e1, e2, h1, hn, hP, hQ, hh⟩ | ⟨v, hv, hh⟩
    · refine .inl ⟨n, p, q, e1, e2, h1, hn, hP, hQ, fun H2 x2 => ?_⟩
      subst e1 e2
      obtain ⟨a, rfl, ha⟩ := r1.nvs'
      obtain ⟨b, rfl, hb⟩ := r2.nvs'
      exact ⟨_, rfl, _, rfl, n, a, b, p, q, rfl, hn, st_of (x2 _ _ ha), hP, st_of (x2 _ _ hb), hQ, fun H4 x4 => hh H4 (x2.trans x4)⟩
    · exact .inr ⟨v, hv, hh⟩
def badPair (n : Nat) (ds : List PyData) (k : Nat) : Prop := (∃ d, ds[k]? = some d ∧ pairD n d = false) ∧ ∀ j d, j < k → ds[j]? = some d → pairD n d = true
def spParting (K : PySem.W.Frag) (AA : Adr) : Sp := fun vs H Q E => ∃ (v1 v2 : V) (d1 : PyData), vs = [v1, v2] ∧ Rep H v1 d1 ∧
  ((numD d1 1 2400 = false ∧ ∀ d H', H d = none → Ex H H' → H' d = some (.xd [("value", v1)]) → E (.ref AA.InvalidNumber) (some d) H') ∨
   (∃ n : Nat, d1 = .int n ∧ 1 ≤ n ∧ n ≤ 2400 ∧ (∃ t, TyX K H v2 t ∧ PySem.W.kitAny K t [.type "list", .type "tuple"] = some false) ∧ ∀ d H', H d = none → Ex H H' → H' d = some (.xd [("at", .int (-1))]) → E (.ref AA.InvalidTie) (some d) H') ∨
   ∃ (n : Nat) (a : Addr) (us : List V) (ds : List PyData), d1 = .int n ∧ 1 ≤ n ∧ n ≤ 2400 ∧ v2 = .ref a ∧ (H a = some (.lst us) ∨ H a = some (.tup us)) ∧ Reps H us ds ∧ us.length ≤ 4000 ∧
     ((∃ k : Nat, badPair n ds k ∧ ∀ d H', H d = none → Ex H H' → H' d = some (.xd [("at", .int k)]) → E (.ref AA.InvalidTie) (some d) H') ∨
      ((∀ d ∈ ds, pairD n d = true) ∧ ∃ l : List (Nat × Nat), ds = l.map (fun xy => PyData.tuple [.int xy.1, .int xy.2]) ∧ ∀ r H', Ex H H' → H r = none → H' r = some (.tup (nvs (mrgs (alone n) l))) → Q (.ref r) H')))
theorem ok_InvalidNumber___init (T : Txt K mg AA) {f : Addr} {fd : FuncData} (F : Fun K "__init__" "InvalidNumber.__init__" s_InvalidNumber___init f fd) (hb : Binds K fd p_InvalidNumber___init []) : FnOk P w K mg base CX0 1 f fd p_InvalidNumber___init (spErr1 AA.InvalidNumber "value") :=
  F.ok sc_InvalidNumber___init (fun vs H Q E h => by
    obtain ⟨a, v, rfl, _⟩ := h
    rfl) fun cdv A outer s H vs Q E hr h => by
    obtain ⟨a, v, rfl, ha, q⟩ := h
    refine ⟨_, (pss_one (ps_ost (pv 0) (pv 1))), ?_⟩
    exact ⟨v, rfl, .ref a, rfl, a, AA.InvalidNumber, rfl, T.e_InvalidNumber.oex, T.a_InvalidNumber_value, .inl ⟨ha, fun dx hd hne => q dx hd hne⟩⟩
end
end Eyes

set_option Elab.async false
set_option linter.all false
set_option maxRecDepth 100000
set_option maxHeartbeats 8000000
/-! set(xs), xs numbers in a list or a tuple, kept or sorted at once; how many it has at most. -/
namespace Eyes
open PySem PySem.Spec PyProof.Rows L2
theorem setR_few {w : World} {h : Heap} {a : Addr} {S : Int → Bool} {c : Nat} (R : SetR w h a S c) {L : List Int} (hL : ∀ k, S k = true → k ∈ L) : c ≤ L.length := by
  obtain ⟨o, es, ep, t, ho, hx, hd, g, nd, hm, hb, hf, hn, _⟩ := R
  have := nodup_le (b := L) nd fun k hk => hL k ((hm k).mpr hk)
  rw [List.length_map, Array.length_toList, hn] at this
  exact this
def rSetI (K : PySem.W.Frag) (w : World) : List V → Hp → VK → Prop := fun vs H Q => ∃ (a : Addr) (xs : List Int), vs = [V.ref a] ∧ SqLT K H a (xs.map V.int) ∧ xs.length ≤ 4000 ∧
  ∀ (p : Addr) (c : Nat), c ≤ xs.length → (∀ L : List Int, (∀ k ∈ xs, k ∈ L) → c ≤ L.length) → H p = none → Q (.ref p) (upd H p (SetO w p (fun j => decide (j ∈ xs)) c))
section
variable {X : Cx}
theorem cr_setI (hc : X.calm = true) : CallR X (.type "set") (rSetI X.K X.w) := by
  intro pins s σ H vs us Q I r h
  obtain ⟨a, xs, rfl, hs, hl, q⟩ := h
  rw [Vals.ref1 r]
  have cm := I.ok.hd hc
  have lx : ∀ {its : List Value}, Vals (xs.map V.int) its → its.length = xs.length := fun rv => by
    have y := rv.length
    rw [List.length_map] at y
    exact y.symm
  have sb : scanBound = 4096 := rfl
  have fin : ∀ (h' : Heap) (tk c : Nat), SetR X.w h' s.heap.objs.size (fun j => decide (j ∈ xs)) c → c ≤ xs.length → (∀ b o, b < s.heap.objs.size → s.heap.get? b = some o → h'.get? b = some o) →
      ∃ v H', Inv X pins σ H' { s with heap := h', toks := tk } ∧ RelV v (.ref s.heap.objs.size) ∧ Q v H' := fun h' tk c T lL kp => by
    refine ⟨.ref _, upd H s.heap.objs.size (SetO X.w s.heap.objs.size (fun j => decide (j ∈ xs)) c), I.laid (t' := tk) (fun b u e => kp b u (Heap.lt_size e) e) (Nat.le_refl _) (setO_new T), rfl, q _ c lL (fun L hL => setR_few T fun k hk => hL k (of_decide_eq_true hk)) (I.hok.fresh (Nat.le_refl _))⟩
  rcases hs with hs | hs
  · obtain ⟨its, rv, pl, _⟩ := I.list hs
    have l2 := lx rv
    refine call_setI cm pl.isList (xs := xs) (by simpa using rv.ints) (by rw [List.size_toArray]; omega) fun h' tk cc T lL kp => ?_
    rw [List.size_toArray, l2] at lL
    exact fin h' tk cc T lL kp
  · obtain ⟨its, rv, pl, hz⟩ := I.tuple hs
    have l2 := lx rv
    obtain ⟨ol, hol, hcl, nl, hdl⟩ := pl
    refine call_set_tupI xs cm ⟨ol, hol, hcl, nl, hdl⟩ (by simpa using rv.ints) (by omega) fun h' tk cc T lL kp => ?_
    exact fin h' tk cc T lL fun b o _ e => kp b o e
variable {K : PySem.W.Frag} {w : World}
theorem cr_setIK (hK : X.K = K) (hw : X.w = w) (hc : X.calm = true) : CallR X (.type "set") (rSetI K w) := by
  subst hK hw
  exact cr_setI hc
theorem cr_sortedSetK (hw : X.w = w) (hc : X.calm = true) : CallR X (.builtin "sorted") (rSortedSet w) := by
  subst hw
  exact cr_sortedSet hc
end
end Eyes

set_option Elab.async false
set_option linter.all false
set_option maxRecDepth 100000
/-! t + u within a comprehension. -/
namespace Eyes
open PySem PySem.Spec PyProof.Rows L2
theorem op_catAK {X : Cx} {K : PySem.W.Frag} (hK : X.K = K) : OpR X (binaryOp .Add) (rCatA K) := by
  subst hK
  exact op_catA
end Eyes

set_option Elab.async false
set_option linter.all false
set_option maxRecDepth 100000
set_option maxHeartbeats 4000000
/-! all_partings: what it hands out, to a list and to a loop. -/
namespace Eyes
open PySem PySem.Spec PyProof.Rows L2 Evl TL
theorem sc_all_partings : GScope n_all_partings p_all_partings (defScope s_all_partings) := ⟨rfl, rfl, rfl, by decide +kernel, rfl, by decide +kernel, by decide +kernel⟩
theorem catR {K : PySem.W.Frag} {H : Hp} {a b : Addr} {r : List Nat} {c : Nat} {Q : VK} (ha : H a = some (.tup (nvs r))) (hb : H b = some (.tup [.int (c : Int)])) (hz : r.length ≤ 60) (q : ∀ p H', Ex H H' → H' p = some (.tup (nvs (r ++ [c]))) → Q (.ref p) H') : rCatA K (.ref a) (.ref b) H Q := by
  have e : nvs r ++ [V.int (c : Int)] = nvs (r ++ [c]) := by unfold nvs; rw [List.map_append]; rfl
  refine ⟨a, b, nvs r, [.int (c : Int)], rfl, rfl, st_of ha, st_of hb, ?_, fun h => ?_, fun _ h => (nomatch h), fun _ _ p hp => ?_⟩
  · rw [nvs_len]
    have : 1000 < sizeLine := by decide
    show r.length + 1 ≤ _
    omega
  · refine q b H (Ex.refl _) ?_
    rw [← e, h]
    exact hb
  · rw [e]
    exact q p _ (Ex.new hp) upd_same
theorem Rws.monoR {H H' : Hp} {us : List V} {l : List (List Nat)} (e : Ex H H') (h : Rws H us l) : Rws H' us l := ⟨h.1, fun i u hu => by
  obtain ⟨t, c, h1, h2, h3⟩ := h.2 i u hu
  exact ⟨t, c, h1, h2, e _ _ h3⟩⟩
theorem Rws.snocR {H : Hp} {us : List V} {l : List (List Nat)} {t : Addr} {c : List Nat} (h : Rws H us l) (ht : H t = some (.tup (nvs c))) : Rws H (us ++ [.ref t]) (l ++ [c]) := by
  refine ⟨by rw [List.length_append, List.length_append, h.1]; rfl, fun i u hu => ?_⟩
  by_cases hi : i < us.length
  · rw [List.getElem?_append_left hi] at hu
    obtain ⟨t2, c2, h1, h2, h3⟩ := h.2 i u hu
    exact ⟨t2, c2, h1, by rw [List.getElem?_append_left (by rw [← h.1]; exact hi)]; exact h2, h3⟩
  · have hl : i = us.length := by
      have := (List.getElem?_eq_some_iff.mp hu).1
      rw [List.length_append] at this
      have : i < us.length + 1 := this
      omega
    subst hl
    rw [List.getElem?_append_right (Nat.le_refl _), Nat.sub_self] at hu
    cases hu
    exact ⟨t, c, rfl, by rw [h.1, List.getElem?_append_right (Nat.le_refl _), Nat.sub_self]; rfl, ht⟩
theorem Rws.putR {H : Hp} {us xs : List V} {l : List (List Nat)} {D : Addr} {ys : List V} (h : Rws H us l) (hD : H D = some (.lst xs)) : Rws (upd H D (.lst ys)) us l := ⟨h.1, fun i u hu => by
  obtain ⟨t, c, h1, h2, h3⟩ := h.2 i u hu
  refine ⟨t, c, h1, h2, ?_⟩
  rw [upd_ne]
  · exact h3
  · rintro rfl
    rw [hD] at h3
    cases h3⟩
theorem flatR_len {l : List (List Nat)} {c : Nat} : (l.flatMap (nxtR c)).length ≤ l.length * c := by
  induction l with
  | nil => exact Nat.zero_le _
  | cons r l ih =>
    rw [List.flatMap_cons, List.length_append, List.length_cons, Nat.succ_mul]
    have h1 : (nxtR c r).length ≤ c := by
      unfold nxtR asc
      rw [List.length_map]
      refine Nat.le_trans (List.length_filter_le ..) ?_
      rw [List.length_range']
      exact Nat.le_refl _
    omega
theorem rows_step {K : PySem.W.Frag} {w : World} {H : Hp} {R : Addr} {us : List V} {c : Nat} {nv : V} {y3 y4 : Option V} {Q : VK} (hR : H R = some (.lst us)) (hw : Rws H us (rowsN c)) (hc : c + 1 ≤ 6)
    (q : ∀ D us' H', Ex H H' → H' D = some (.lst us') → Rws H' us' (rowsN (c + 1)) → Q (.ref D) H') :
    tLc2 (iList K (tVar 1)) (gName 3) tYes (iList K (tCB (rSortedSet w) (tCons (tCB (rSetI K w) (tCons (tOp (rCatA K) (tVar 3) (tTup (tCons (tVar 2) tNil))) tNil)) tNil))) (gName 4) tYes (tOp (rCatA K) (tVar 3) (tTup (tCons (tVar 4) tNil)))
      (([("row", 3), ("item", 4)] : List (Str × Nat)).map (fun x => x.2)) [4] [some nv, some (.ref R), some (.int ((c + 1 : Nat) : Int)), y3, y4] H Q := by
  have big : 100000 < sizeLine := by decide
  have rl := rowsN_le c (by omega)
  refine ⟨_, rfl, R, rfl, ⟨us, sq_of hR⟩, fun D hD => it_byW (walk_list (xs := us)) (fun i H' => H D = none ∧ Ex H H' ∧ ∃ ws, H' D = some (.lst ws) ∧ Rws H' ws (((rowsN c).take i).flatMap (nxtR (c + 1)))) ⟨hD, Ex.new hD, [], upd_same, rfl, fun i u hu => by cases hu⟩ (fun _ _ _ hp => ex_l hp.2.1 (sq_of hR)) (fun i v H3 H4 hi hp hy => ?_) (fun H' hp => ?_)⟩
  · obtain ⟨rfl, hv⟩ := hy
    obtain ⟨_, x3, ws, h3, h4⟩ := hp
    obtain ⟨t, r, rfl, hri, ht⟩ := hw.2 i v hv
    obtain ⟨rlen, rin⟩ := rowsN_ok (List.mem_of_getElem? hri)
    refine ⟨rfl, _, rfl, _, rfl, by show 1 ≤ sizeLine; decide, fun pt npt => ?_⟩
    have e1 := Ex.new (o := .tup [.int ((c + 1 : Nat) : Int)]) npt
    refine catR (e1 _ _ (x3 _ _ ht)) upd_same (by omega) fun p H5 e5 hp5 => ?_
    refine ⟨p, (r ++ [c + 1]).map (fun x : Nat => (x : Int)), rfl, ?_, by rw [List.length_map, List.length_append, rlen]; show c + 1 ≤ 4000; omega, fun S k kl _ nS => ?_⟩
    · refine .inr (st_of ?_)
      rw [hp5]
      unfold nvs
      rw [List.map_map]
      rfl
    have e6 := Ex.new (o := SetO w S (fun j => decide (j ∈ (r ++ [c + 1]).map (fun x : Nat => (x : Int)))) k) nS
    rw [List.length_map, List.length_append, rlen] at kl
    refine ⟨S, _, k, rfl, upd_same, by show k < 64; have : k ≤ c + 1 := kl; omega, fun ns L hasc hmem hlen nL => ?_⟩
    have e7 := Ex.new (o := .lst (ns.map V.int)) nL
    have hin : ∀ x ∈ r ++ [c + 1], 1 ≤ x ∧ x ≤ c + 1 := fun x hx => by
      rcases List.mem_append.mp hx with hx | hx
      · have := rin x hx
        omega
      · rw [List.mem_singleton.mp hx]
        omega
    obtain rfl := asc_is hin hasc fun y => (hmem y).trans decide_eq_true_iff
    have x7 := x3.trans (e1.trans (e5.trans (e6.trans e7)))
    have hL : upd (upd H5 S (SetO w S (fun j => decide (j ∈ (r ++ [c + 1]).map (fun x : Nat => (x : Int)))) k)) L (.lst (((asc (c + 1) (r ++ [c + 1])).map fun x : Nat => (x : Int)).map V.int)) L = some (.lst (nvs (asc (c + 1) (r ++ [c + 1])))) := by
      rw [upd_same]
      unfold nvs
      rw [List.map_map]
      rfl
    have lne : L ≠ D := fun z => ne_of_none ((e1.trans (e5.trans e6)) _ _ h3) nL z.symm
    have h37 := (e1.trans (e5.trans (e6.trans e7))) _ _ h3
    have h47 := h4.monoR (e1.trans (e5.trans (e6.trans e7)))
    generalize upd (upd H5 S _) L _ = H8 at x7 hL h37 h47 ⊢
    have hal : (asc (c + 1) (r ++ [c + 1])).length ≤ 6 := by
      unfold asc
      refine Nat.le_trans (List.length_filter_le ..) ?_
      rw [List.length_range']
      exact hc
    have fl := flatR_len (l := (rowsN c).take i) (c := c + 1)
    have fl2 : ((rowsN c).take i).length * (c + 1) ≤ 203 * 6 := Nat.mul_le_mul (by rw [List.length_take]; omega) hc
    refine ⟨L, rfl, ⟨_, sq_of hL⟩, it_byW (walk_list (xs := nvs (asc (c + 1) (r ++ [c + 1])))) (fun j H' => Ex H H' ∧ H' L = some (.lst (nvs (asc (c + 1) (r ++ [c + 1])))) ∧ ∃ ws, H' D = some (.lst ws) ∧ Rws H' ws (((rowsN c).take i).flatMap (nxtR (c + 1)) ++ ((asc (c + 1) (r ++ [c + 1])).take j).map fun x => r ++ [x])) ⟨x7, hL, ws, h37, ?_⟩ (fun _ _ _ hq => sq_of hq.2.1) (fun j u H9 H10 hj hq hy9 => ?_) (fun H' hq => ?_)⟩
    · rw [List.take_zero, List.map_nil, List.append_nil]
      exact h47
    · obtain ⟨rfl, hu⟩ := hy9
      obtain ⟨x9, hL9, ws9, g3, g4⟩ := hq
      rw [nvs_len] at hj
      obtain ⟨m, hm⟩ : ∃ m, (asc (c + 1) (r ++ [c + 1]))[j]? = some m := ⟨_, List.getElem?_eq_getElem hj⟩
      obtain rfl : V.int (m : Int) = u := Option.some.inj ((nvs_get hm).symm.trans hu)
      refine ⟨rfl, _, rfl, _, rfl, by show 1 ≤ sizeLine; decide, fun pm npm => ?_⟩
      have f1 := Ex.new (o := .tup [.int (m : Int)]) npm
      refine catR (f1 _ _ (x9 _ _ ht)) upd_same (by omega) fun p2 H12 f2 hp2 => ?_
      have f12 := f1.trans f2
      refine ⟨ws9, f12 _ _ g3, ?_, (x9.trans f12).mut hD, ?_, ws9 ++ [.ref p2], upd_same, ?_⟩
      · rw [g4.1, List.length_append, List.length_map, List.length_take]
        omega
      · rw [upd_ne lne]
        exact f12 _ _ hL9
      · have htk : (asc (c + 1) (r ++ [c + 1])).take (j + 1) = (asc (c + 1) (r ++ [c + 1])).take j ++ [m] := by
          rw [List.take_add_one, hm]
          rfl
        rw [htk, List.map_append, ← List.append_assoc]
        exact ((g4.monoR f12).snocR hp2).putR (f12 _ _ g3)
    · obtain ⟨x9, _, ws9, g3, g4⟩ := hq
      rw [nvs_len, List.take_length] at g4
      refine ⟨hD, x9, ws9, g3, ?_⟩
      rw [List.take_add_one, hri, List.flatMap_append]
      show Rws H' ws9 (_ ++ [r].flatMap (nxtR (c + 1)))
      rw [List.flatMap_cons, List.flatMap_nil, List.append_nil]
      exact g4
  · obtain ⟨_, x3, ws, h3, h4⟩ := hp
    rw [List.take_of_length_le (by rw [hw.1]; exact Nat.le_refl _)] at h4
    exact q D ws H' x3 h3 h4
def spAllY (AA : Adr) : SpY := fun vs H yl Q E => ∃ (v : V) (d : PyData), vs = [v] ∧ Rep H v d ∧
  ((numD d 1 6 = false ∧ ∀ dd H', H dd = none → Ex H H' → H' dd = some (.xd [("value", v)]) → E (.ref AA.InvalidNumber) (some dd) H') ∨
   (∃ n : Nat, v = .int n ∧ 1 ≤ n ∧ n ≤ 6 ∧ ∀ us H', Ex H H' → Rws H' us (rowsN n) → (∀ (i : Nat) u, us[i]? = some u → yl (us.take i) u H') ∧ Q us H'))
section
variable {P : Program} {w : World} {K : PySem.W.Frag} {mg : Str → Option Value} {base : Heap} {AA : Adr}
theorem ok_all_partingsY (T : Txt K mg AA) : PrY P w K mg base "all_partings" s_all_partings p_all_partings 3 (spAllY AA) := by
  obtain ⟨f, fd, F, hb, hm⟩ := T.f_all_partings
  refine ⟨f, fd, hm, F, hb, gfy_of F sc_all_partings (fun vs H yl Q E h => ?_) (fun cdv A outer n0 S L sc H vs yl Q E pn hr h hh F => ?_)⟩
  · obtain ⟨v, d, rfl, _⟩ := h
    rfl
  · obtain ⟨v, d, rfl, r, h⟩ := h
    have tk : ∀ b Hb, Takes (gyx P w K mg base n_all_partings "all_partings" (defScope s_all_partings) f cdv A outer n0 E pn b Hb) (fun cls d _ G => E cls d G) := fun b Hb => takes_gyx
    refine ⟨_, yss_cons (ys_ps fun b Hb => have tk := tk b Hb; (ps_if (pt_not (pt_val (pcall (ok_is_number T) hr (pa_cons (pv 0) (pa_cons pe_int (pa_cons (pgI T.m_MOST_LISTED) pa_nil))))))
      (pss_one (ps_raise1 T.e_InvalidNumber (fun _ _ F b => ok_InvalidNumber___init T F b) rfl tk hr (pa_cons (pv 0) pa_nil)))
      pss_nil)) (yss_cons (ys_ps fun b Hb => have tk := tk b Hb; (ps_set (i := 1) sc_all_partings.nd rfl (.inl rfl) (pe_lst (pa_cons (pe_tup pa_nil) pa_nil)))) (yss_cons (ys_ps fun b Hb => have tk := tk b Hb; (ps_for (passes_of rfl) rfl (pi_range2 (by rfl) T.n_range (pa_cons pe_int (pa_cons (pe_op op_add (pv 0) pe_int) pa_nil))) (pg_name (i := 2) sc_all_partings.nd rfl (.inr rfl))
      (pss_one (ps_setLc2 (i := 1) (own := [("row", 3), ("item", 4)]) (vs1 := [4]) (g := gName 3) (tt := tYes) (g1 := gName 4) (tt1 := tYes) rfl sc_all_partings.nd rfl rfl (sw_true rfl rfl rfl (by decide +kernel)) (pi_listK (K := K) rfl (pv 1)) (blkOk_by (own := [("row", 3), ("item", 4)]) (N := n_all_partings) (sc := defScope s_all_partings) (by decide +kernel)) (by decide) (fun _ _ _ _ _ => (pg_name (i := 3) sc_all_partings.nd rfl (.inl rfl))) (fun _ _ _ _ _ => pts_nil) (fun _ _ _ _ _ => (pi_listK (K := K) rfl (pe_callB (cr_sortedSetK (w := w) rfl rfl) (by rfl) T.n_sorted PyProof.Rows.boot_sorted (pa_cons (pe_callTy (cr_setIK (K := K) (w := w) rfl rfl rfl) (by rfl) T.n_set PyProof.Rows.boot_set (pa_cons (pe_op (op_catAK (K := K) rfl) (pv 3) (pe_tup (pa_cons (pv 2) pa_nil))) pa_nil)) pa_nil)))) (fun _ _ _ _ _ => (pg_name (i := 4) sc_all_partings.nd rfl (.inl rfl))) (fun _ _ _ _ _ => pts_nil) (fun _ _ _ _ _ => (pe_op (op_catAK (K := K) rfl) (pv 3) (pe_tup (pa_cons (pv 4) pa_nil)))))))) (yss_cons (ys_from (e := .Name "rows" _) (te := tVar 1) F (fun b Hb => pe_var (by rfl) (.inl (by rfl)) (by decide) (by decide)) hh) yss_nil))), ?_⟩
    refine ⟨_, rfl, v, d, 1, 6, rfl, r, ?_⟩
    rcases h with ⟨hn, hq⟩ | ⟨n, rfl, h1, h6, hq⟩
    · rw [hn]
      exact ⟨_, rfl, iteT ⟨_, rfl, raise1_by fun dd hd => hq dd _ hd (Ex.new hd) upd_same⟩⟩
    · cases r
      have hb : numD (.int (n : Int)) 1 6 = true := by
        show (decide ((1 : Int) ≤ n) && decide ((n : Int) ≤ 6)) = true
        rw [decide_eq_true (by omega), decide_eq_true (by omega)]
        rfl
      rw [hb]
      refine ⟨_, rfl, iteF ?_⟩
      refine ⟨by show 0 ≤ sizeLine; decide, fun p0 hp0 => ⟨by show 1 ≤ sizeLine; decide, fun R0 hR0 => ?_⟩⟩
      have e1 := Ex.new (o := .tup []) hp0
      have e2 := Ex.new (o := .lst [.ref p0]) hR0
      have w0 : Rws (upd (upd H p0 (.tup [])) R0 (.lst [.ref p0])) [.ref p0] (rowsN 0) := ⟨rfl, fun i u hu => by
        match i, hu with
        | 0, hu =>
          cases hu
          exact ⟨p0, [], rfl, rfl, e2 _ _ upd_same⟩⟩
      have hR1 : upd (upd H p0 (.tup [])) R0 (.lst [.ref p0]) R0 = some (.lst [.ref p0]) := upd_same
      have x0 := e1.trans e2
      generalize upd (upd H p0 _) R0 _ = Ha at x0 w0 hR1 ⊢
      refine ⟨_, rfl, (n : Int), 1, rfl, rfl, 1, _, rfl, ⟨by decide, by decide, by omega, by omega⟩, ?_⟩
      rw [show ((n : Int) + 1 - 1).toNat = n by omega]
      refine for_it walk_range (fun i σ H' => ∃ (R : Addr) (us : List V) (y2 y3 y4 : Option V), σ = [some (.int n), some (.ref R), y2, y3, y4] ∧ Ex H H' ∧ H' R = some (.lst us) ∧ Rws H' us (rowsN i)) ⟨R0, [.ref p0], none, none, none, rfl, x0, hR1, w0⟩ (fun _ _ _ _ _ => trivial) (fun i v σ H3 H4 hi hp hy => ?_) (fun σ H' hp => ?_)
      · obtain ⟨R, us, y2, y3, y4, rfl, x3, hR, hw⟩ := hp
        obtain ⟨rfl, rfl⟩ := hy
        have hz : V.int ((i + 1 : Nat) : Int) = .int (1 + (i : Int)) := congrArg V.int (by omega)
        have key := fun Q q => rows_step (K := K) (w := w) (nv := .int n) (y3 := y3) (y4 := y4) (Q := Q) hR hw (by omega) q
        rw [hz] at key
        refine key (fun v H1 => gName 1 v [some (.int (n : Int)), some (.ref R), some (.int (1 + (i : Int))), y3, y4] H1 fun σ H' => ∃ (R : Addr) (us : List V) (y2 y3 y4 : Option V), σ = [some (.int n), some (.ref R), y2, y3, y4] ∧ Ex H H' ∧ H' R = some (.lst us) ∧ Rws H' us (rowsN (i + 1))) fun D us' H' x4 hD hw' => ⟨D, us', _, y3, y4, rfl, x3.trans x4, hD, hw'⟩
      · obtain ⟨R, us, y2, y3, y4, rfl, x3, hR, hw⟩ := hp
        obtain ⟨q1, q2⟩ := hq us H' x3 hw
        refine ⟨_, rfl, R, us, rfl, hR, ?_, fun i y hy => ?_, ?_⟩
        · have := rowsN_le n h6
          have : 1000 < sizeLine := by decide
          rw [hw.1]
          show 0 + _ ≤ _
          omega
        · rw [List.nil_append]
          exact q1 i y hy
        · show Q ([] ++ us) H'
          rw [List.nil_append]
          exact q2
def spAllL (AA : Adr) : SpG := fun vs H Q E => ∃ (v : V) (d : PyData), vs = [v] ∧ Rep H v d ∧
  ((numD d 1 6 = false ∧ ∀ dd H', H dd = none → Ex H H' → H' dd = some (.xd [("value", v)]) → E (.ref AA.InvalidNumber) (some dd) H') ∨
   (∃ n : Nat, v = .int n ∧ 1 ≤ n ∧ n ≤ 6 ∧ ∀ us H', Ex H H' → Rws H' us (rowsN n) → Q us H'))
theorem ok_all_partingsL (T : Txt K mg AA) : PrG P w K mg base "all_partings" s_all_partings p_all_partings 3 (spAllL AA) := by
  obtain ⟨f, fd, F, hb, hm⟩ := T.f_all_partings
  obtain ⟨oc, od, kV, doc, pm, an, cdv, ct, osl, rfl, lk, hcd⟩ := F.ex
  refine ⟨f, _, hm, F, hb, gfn_of lk hcd sc_all_partings (fun vs H Q E h => ?_) (fun A outer s H vs Q E pn hr h => ?_)⟩
  · obtain ⟨v, d, rfl, _⟩ := h
    rfl
  · obtain ⟨v, d, rfl, r, h⟩ := h
    have tk : Takes (gcxOf P w K mg base n_all_partings "all_partings" (defScope s_all_partings) f cdv A outer s H E pn) (fun cls d _ G => E cls d G) := takes_gcx
    refine ⟨_, gss_cons (gs_ps (ps_if (pt_not (pt_val (pcall (ok_is_number T) hr (pa_cons (pv 0) (pa_cons pe_int (pa_cons (pgI T.m_MOST_LISTED) pa_nil))))))
      (pss_one (ps_raise1 T.e_InvalidNumber (fun _ _ F b => ok_InvalidNumber___init T F b) rfl tk hr (pa_cons (pv 0) pa_nil)))
      pss_nil)) (gss_cons (gs_ps (ps_set (i := 1) sc_all_partings.nd rfl (.inl rfl) (pe_lst (pa_cons (pe_tup pa_nil) pa_nil)))) (gss_cons (gs_ps (ps_for (passes_of rfl) rfl (pi_range2 (by rfl) T.n_range (pa_cons pe_int (pa_cons (pe_op op_add (pv 0) pe_int) pa_nil))) (pg_name (i := 2) sc_all_partings.nd rfl (.inr rfl))
      (pss_one (ps_setLc2 (i := 1) (own := [("row", 3), ("item", 4)]) (vs1 := [4]) (g := gName 3) (tt := tYes) (g1 := gName 4) (tt1 := tYes) rfl sc_all_partings.nd rfl rfl (sw_true rfl rfl rfl (by decide +kernel)) (pi_listK (K := K) rfl (pv 1)) (blkOk_by (own := [("row", 3), ("item", 4)]) (N := n_all_partings) (sc := defScope s_all_partings) (by decide +kernel)) (by decide) (fun _ _ _ _ _ => (pg_name (i := 3) sc_all_partings.nd rfl (.inl rfl))) (fun _ _ _ _ _ => pts_nil) (fun _ _ _ _ _ => (pi_listK (K := K) rfl (pe_callB (cr_sortedSetK (w := w) rfl rfl) (by rfl) T.n_sorted PyProof.Rows.boot_sorted (pa_cons (pe_callTy (cr_setIK (K := K) (w := w) rfl rfl rfl) (by rfl) T.n_set PyProof.Rows.boot_set (pa_cons (pe_op (op_catAK (K := K) rfl) (pv 3) (pe_tup (pa_cons (pv 2) pa_nil))) pa_nil)) pa_nil)))) (fun _ _ _ _ _ => (pg_name (i := 4) sc_all_partings.nd rfl (.inl rfl))) (fun _ _ _ _ _ => pts_nil) (fun _ _ _ _ _ => (pe_op (op_catAK (K := K) rfl) (pv 3) (pe_tup (pa_cons (pv 4) pa_nil)))))))) (gss_cons (gs_yieldFrom (yf_lst (pv 1)) hr.hd) gss_nil))), ?_⟩
    refine ⟨_, rfl, v, d, 1, 6, rfl, r, ?_⟩
    rcases h with ⟨hn, hq⟩ | ⟨n, rfl, h1, h6, hq⟩
    · rw [hn]
      exact ⟨_, rfl, iteT ⟨_, rfl, raise1_by fun dd hd => hq dd _ hd (Ex.new hd) upd_same⟩⟩
    · cases r
      have hb : numD (.int (n : Int)) 1 6 = true := by
        show (decide ((1 : Int) ≤ n) && decide ((n : Int) ≤ 6)) = true
        rw [decide_eq_true (by omega), decide_eq_true (by omega)]
        rfl
      rw [hb]
      refine ⟨_, rfl, iteF ?_⟩
      refine ⟨by show 0 ≤ sizeLine; decide, fun p0 hp0 => ⟨by show 1 ≤ sizeLine; decide, fun R0 hR0 => ?_⟩⟩
      have e1 := Ex.new (o := .tup []) hp0
      have e2 := Ex.new (o := .lst [.ref p0]) hR0
      have w0 : Rws (upd (upd H p0 (.tup [])) R0 (.lst [.ref p0])) [.ref p0] (rowsN 0) := ⟨rfl, fun i u hu => by
        match i, hu with
        | 0, hu =>
          cases hu
          exact ⟨p0, [], rfl, rfl, e2 _ _ upd_same⟩⟩
      have hR1 : upd (upd H p0 (.tup [])) R0 (.lst [.ref p0]) R0 = some (.lst [.ref p0]) := upd_same
      have x0 := e1.trans e2
      generalize upd (upd H p0 _) R0 _ = Ha at x0 w0 hR1 ⊢
      refine ⟨_, rfl, (n : Int), 1, rfl, rfl, 1, _, rfl, ⟨by decide, by decide, by omega, by omega⟩, ?_⟩
      rw [show ((n : Int) + 1 - 1).toNat = n by omega]
      refine for_it walk_range (fun i σ H' => ∃ (R : Addr) (us : List V) (y2 y3 y4 : Option V), σ = [some (.int n), some (.ref R), y2, y3, y4] ∧ Ex H H' ∧ H' R = some (.lst us) ∧ Rws H' us (rowsN i)) ⟨R0, [.ref p0], none, none, none, rfl, x0, hR1, w0⟩ (fun _ _ _ _ _ => trivial) (fun i v σ H3 H4 hi hp hy => ?_) (fun σ H' hp => ?_)
      · obtain ⟨R, us, y2, y3, y4, rfl, x3, hR, hw⟩ := hp
        obtain ⟨rfl, rfl⟩ := hy
        have hz : V.int ((i + 1 : Nat) : Int) = .int (1 + (i : Int)) := congrArg V.int (by omega)
        have key := fun Q q => rows_step (K := K) (w := w) (nv := .int n) (y3 := y3) (y4 := y4) (Q := Q) hR hw (by omega) q
        rw [hz] at key
        refine key (fun v H1 => gName 1 v [some (.int (n : Int)), some (.ref R), some (.int (1 + (i : Int))), y3, y4] H1 fun σ H' => ∃ (R : Addr) (us : List V) (y2 y3 y4 : Option V), σ = [some (.int n), some (.ref R), y2, y3, y4] ∧ Ex H H' ∧ H' R = some (.lst us) ∧ Rws H' us (rowsN (i + 1))) fun D us' H' x4 hD hw' => ⟨D, us', _, y3, y4, rfl, x3.trans x4, hD, hw'⟩
      · obtain ⟨R, us, y2, y3, y4, rfl, x3, hR, hw⟩ := hp
        refine ⟨_, rfl, R, us, rfl, sq_of hR, fun z => (nomatch (hR.symm.trans z)), ?_, ?_⟩
        · have := rowsN_le n h6
          have : 1000 < sizeLine := by decide
          rw [hw.1]
          show 0 + _ ≤ _
          omega
        · show Q ([] ++ us) H'
          rw [List.nil_append]
          exact hq us H' x3 hw
end
end Eyes

set_option Elab.async false
set_option linter.all false
set_option maxRecDepth 100000
set_option maxHeartbeats 4000000
namespace Eyes
open PySem PySem.Spec PyProof.Rows L2 Evl TL
/-! ### parts of the heap -/
def cutH (G : Hp) : Hp := fun a => match G a with
  | some (.own x) => match G x with
    | some (.ins C dx fs) => if dx = a then some (.own x) else none
    | _ => none
  | some (.dT _) => none
  | some (.frz _ _) => none
  | some (.tbl _) => none
  | o => o
theorem cut_ins {G : Hp} {a C dx : Addr} {fs : List (Str × V)} (h : G a = some (.ins C dx fs)) : cutH G a = some (.ins C dx fs) := by
  unfold cutH
  rw [h]
theorem cut_lst {G : Hp} {a : Addr} {xs : List V} (h : G a = some (.lst xs)) : cutH G a = some (.lst xs) := by
  unfold cutH
  rw [h]
theorem cut_own {G : Hp} {a x C : Addr} {fs : List (Str × V)} (h : G a = some (.own x)) (h2 : G x = some (.ins C a fs)) : cutH G a = some (.own x) := by
  unfold cutH
  simp only [h, h2, if_pos]
theorem cut_sub {G : Hp} : Ex (cutH G) G := fun a o h => by
  unfold cutH at h
  split at h
  · rename_i x e
    split at h
    · split at h
      · cases h
        exact e
      · cases h
    · cases h
  · cases h
  · cases h
  · cases h
  · exact h
theorem cut_cl {G : Hp} (o : Own1 G) : Cl (cutH G) := by
  refine ⟨fun a C dx fs h => ?_, fun a b h => ?_, fun a kvs h => ?_, fun a ob u h => ?_, fun a ps h => ?_⟩
  · have h1 := cut_sub _ _ h
    exact cut_own (o _ _ _ _ h1) h1
  · have h1 := cut_sub _ _ h
    unfold cutH at h
    rw [h1] at h
    simp only at h
    split at h
    · rename_i C dx fs e
      split at h
      · rename_i e2
        subst e2
        exact ⟨C, fs, cut_ins e⟩
      · cases h
    · cases h
  · have h1 := cut_sub _ _ h
    unfold cutH at h
    rw [h1] at h
    cases h
  · have h1 := cut_sub _ _ h
    unfold cutH at h
    rw [h1] at h
    cases h
  · have h1 := cut_sub _ _ h
    unfold cutH at h
    rw [h1] at h
    cases h
mutual
theorem CiAt.mono2 {C : Addr} {H H' : Hp} (e1 : ∀ a C dx fs, H a = some (.ins C dx fs) → H' a = some (.ins C dx fs)) (e2 : ∀ a xs, H a = some (.lst xs) → H' a = some (.lst xs)) : ∀ {v : V} {c : Ci}, CiAt C H v c → CiAt C H' v c
  | _, _, .mk h0 h1 h2 h3 => .mk h0 (e1 _ _ _ _ h1) (e2 _ _ h2) (CisAt.mono2 e1 e2 h3)
theorem CisAt.mono2 {C : Addr} {H H' : Hp} (e1 : ∀ a C dx fs, H a = some (.ins C dx fs) → H' a = some (.ins C dx fs)) (e2 : ∀ a xs, H a = some (.lst xs) → H' a = some (.lst xs)) : ∀ {vs : List V} {cs : List Ci}, CisAt C H vs cs → CisAt C H' vs cs
  | _, _, .nil => .nil
  | _, _, .cons h r => .cons (CiAt.mono2 e1 e2 h) (CisAt.mono2 e1 e2 r)
end
theorem CiAt.cut {C : Addr} {G : Hp} {v : V} {c : Ci} (h : CiAt C G v c) : CiAt C (cutH G) v c := h.mono2 (fun _ _ _ _ => cut_ins) fun _ _ => cut_lst
def addT (G H : Hp) : Hp := fun a => match G a with
  | some o => some o
  | none => match H a with
    | some (.tup xs) => some (.tup xs)
    | _ => none
theorem addT_cases {G H : Hp} {a : Addr} {o : HO} (h : addT G H a = some o) : G a = some o ∨ G a = none ∧ ∃ xs, o = .tup xs ∧ H a = some (.tup xs) := by
  unfold addT at h
  cases g : G a with
  | some o2 =>
    rw [g] at h
    exact .inl h
  | none =>
    rw [g] at h
    refine .inr ⟨rfl, ?_⟩
    simp only at h
    split at h
    · rename_i xs e
      cases h
      exact ⟨xs, rfl, e⟩
    · cases h
theorem addT_le {G H : Hp} (e : Ex G H) : Ex (addT G H) H := fun a o h => by
  rcases addT_cases h with h2 | ⟨_, xs, rfl, h2⟩
  · exact e a o h2
  · exact h2
theorem addT_none {G H : Hp} {a : Addr} {xs : List V} (g : G a = none) (h : H a = some (.lst xs)) : addT G H a = none := by
  unfold addT
  rw [g, h]
theorem addT_tup {G H : Hp} (e : Ex G H) : ∀ a xs, H a = some (.tup xs) → addT G H a = some (.tup xs) := fun a xs h => by
  unfold addT
  cases g : G a with
  | some o =>
    have := e a o g
    rw [h] at this
    cases this
    rfl
  | none => simp only [h]
theorem Rep.addT {G H : Hp} {v : V} {c : Ci} (e : Ex G H) (h : Rep H v c.data) : Rep (addT G H) v c.data := Rep.tups (addT_tup e) h
theorem At.addT {b : Addr} {G H : Hp} (h : At b G H) : At b (addT G H) H := by
  obtain ⟨c, ns, i, r, m, n, B⟩ := h
  exact ⟨c, ns, i, r, m, n, addT_none B.nb B.at_, addT_none B.nc B.cells, addT_le B.ex, B.at_, B.cells, B.ne, B.i0, B.r0, B.m0, B.m1⟩
theorem At.more {b : Addr} {G H H' : Hp} (h : At b G H) (e : Ex H H') : ∃ G', At b G' H' ∧ Ex G G' ∧ ∀ a o, H' a = some o → H a = none ∨ (∃ o2, G a = some o2) → G' a = some o := by
  obtain ⟨c, ns, i, r, m, n, B⟩ := h
  refine ⟨fun a => if a = b ∨ a = c then none else H' a, ⟨c, ns, i, r, m, n, if_pos (.inl rfl), if_pos (.inr rfl), fun a u z => ?_, e _ _ B.at_, e _ _ B.cells, B.ne, B.i0, B.r0, B.m0, B.m1⟩, fun a u z => ?_, fun a o z g => ?_⟩
  · by_cases hc : a = b ∨ a = c
    · have z : (if a = b ∨ a = c then none else H' a) = some u := z
      rw [if_pos hc] at z
      cases z
    · have z : (if a = b ∨ a = c then none else H' a) = some u := z
      rw [if_neg hc] at z
      exact z
  · show (if a = b ∨ a = c then none else H' a) = some u
    rw [if_neg ?_]
    · exact e _ _ (B.ex _ _ z)
    · rintro (rfl | rfl)
      · rw [B.nb] at z
        cases z
      · rw [B.nc] at z
        cases z
  · show (if a = b ∨ a = c then none else H' a) = some o
    rw [if_neg ?_]
    · exact z
    · rintro (rfl | rfl)
      · rcases g with g | ⟨o2, g⟩
        · rw [B.at_] at g
          cases g
        · rw [B.nb] at g
          cases g
      · rcases g with g | ⟨o2, g⟩
        · rw [B.cells] at g
          cases g
        · rw [B.nc] at g
          cases g
end Eyes

set_option Elab.async false
set_option linter.all false
set_option maxRecDepth 100000
set_option maxHeartbeats 4000000
/-! Calls beside the bag: over all of the heap but the bag, cut to what stands by itself. -/
namespace Eyes
open PySem PySem.Spec PyProof.Rows L2 Evl TL
theorem FnOk.pre {P : Program} {w : World} {K : PySem.W.Frag} {mg : Str → Option Value} {base : Heap} {CX : CXT} {k : Nat} {f : Addr} {fd : FuncData} {ps : List Str} {sp sp' : Sp} (F : FnOk P w K mg base CX k f fd ps sp) (hl : ∀ vs H Q E, sp' vs H Q E → vs.length = ps.length)
    (h : ∀ vs H Q E, Own1 H → sp' vs H Q E → sp vs H Q E) : FnOk P w K mg base CX k f fd ps sp' := by
  refine ⟨hl, fun A outer s H args us vs Q E hr e0 hb hv h' => F.run A outer s H args us vs Q E hr e0 hb hv (h _ _ _ _ (fun a C dx fs g => ?_) h')⟩
  obtain ⟨z, _⟩ := e0.hok a _ g
  exact z
def spCutX (n : Nat) (sp : Sp) : Sp := fun vs H Q E => vs.length = n ∧ (Cl (cutH H) → sp vs (cutH H) (fun v G' => (∀ a o, H a = some o → cutH H a = none → G' a = none) → Own1 G' → Q v (mrg (cutH H) G' H)) (fun cls d G' => (∀ a o, H a = some o → cutH H a = none → G' a = none) → Own1 G' → E cls d (mrg (cutH H) G' H)))
def spCut (n : Nat) (sp : Sp) : Sp := fun vs H Q E => vs.length = n ∧ (Cl (cutH H) → sp vs (cutH H) (fun v G' => (∀ a o, H a = some o → cutH H a = none → G' a = none) → Own1 G' → Q v (mrg (cutH H) G' H)) (fun _ _ _ => False))
structure spBagX (n : Nat) (sp : Sp) (vs : List V) (H : Hp) (Q : VK) (E : XK) : Prop where
  len : vs.length = n
  ex : ∃ (b : Addr) (G : Hp), At b G H ∧ ∀ G0, Ex G G0 → At b G0 H → Cl (cutH G0) → sp vs (cutH G0) (fun v G' => (∀ a o, H a = some o → cutH G0 a = none → G' a = none) → Own1 G' → Q v (mrg (cutH G0) G' H)) (fun cls d G' => (∀ a o, H a = some o → cutH G0 a = none → G' a = none) → Own1 G' → E cls d (mrg (cutH G0) G' H))
structure spBag0 (n : Nat) (sp : Sp) (vs : List V) (H : Hp) (Q : VK) (E : XK) : Prop where
  len : vs.length = n
  ex : ∃ (b : Addr) (G : Hp), At b G H ∧ ∀ G0, Ex G G0 → At b G0 H → Cl (cutH G0) → sp vs (cutH G0) (fun v G' => (∀ a o, H a = some o → cutH G0 a = none → G' a = none) → Own1 G' → Q v (mrg (cutH G0) G' H)) (fun _ _ _ => False)
theorem At.max {b : Addr} {G H : Hp} (h : At b G H) (o : Own1 H) : ∃ G0, Ex G G0 ∧ At b G0 H ∧ Own1 G0 := by
  obtain ⟨c, ns, i, r, m, n, B⟩ := h
  have out : ∀ {a : Addr} {u : HO}, (if a = b ∨ a = c then none else H a) = some u → H a = some u := fun {a u} z => by
    by_cases hc : a = b ∨ a = c
    · rw [if_pos hc] at z
      cases z
    · rw [if_neg hc] at z
      exact z
  have inn : ∀ {a : Addr} {u : HO}, H a = some u → (∀ xs, u ≠ .lst xs) → (if a = b ∨ a = c then none else H a) = some u := fun {a u} z hn => by
    rw [if_neg ?_]
    · exact z
    · rintro (rfl | rfl)
      · rw [B.at_] at z
        cases z
        exact hn _ rfl
      · rw [B.cells] at z
        cases z
        exact hn _ rfl
  refine ⟨fun a => if a = b ∨ a = c then none else H a, fun a u z => ?_, ⟨c, ns, i, r, m, n, if_pos (.inl rfl), if_pos (.inr rfl), fun a u z => out z, B.at_, B.cells, B.ne, B.i0, B.r0, B.m0, B.m1⟩, fun a C dx fs z => inn (o a C dx fs (out z)) (fun _ => nofun)⟩
  show (if a = b ∨ a = c then none else H a) = some u
  rw [if_neg ?_]
  · exact B.ex _ _ z
  · rintro (rfl | rfl)
    · rw [B.nb] at z
      cases z
    · rw [B.nc] at z
      cases z
section
variable {P : Program} {w : World} {K : PySem.W.Frag} {mg : Str → Option Value} {base : Heap} {x : Str} {st : Stmt} {ps : List Str} {k : Nat} {sp : Sp}
theorem Pr.cut (G : Pr P w K mg base x st ps k sp) : Pr P w K mg base x st ps k (spCut ps.length sp) := by
  obtain ⟨f, fd, hm, F, hb, R⟩ := Pr.frame G
  exact ⟨f, fd, hm, F, hb, FnOk.pre R (fun _ _ _ _ h => h.1) fun vs H Q E o h => ⟨cutH H, cut_sub, cut_cl o, h.2 (cut_cl o)⟩⟩
theorem Pr.bag (G : Pr P w K mg base x st ps k sp) : Pr P w K mg base x st ps k (spBag0 ps.length sp) := by
  obtain ⟨f, fd, hm, F, hb, R⟩ := Pr.frame G
  refine ⟨f, fd, hm, F, hb, FnOk.pre R (fun _ _ _ _ h => h.1) fun vs H Q E o h => ?_⟩
  obtain ⟨_, b, G, hA, h⟩ := h
  obtain ⟨G0, g0, hA0, o0⟩ := hA.max o
  exact ⟨cutH G0, cut_sub.trans hA0.ex, cut_cl o0, h G0 g0 hA0 (cut_cl o0)⟩
end
end Eyes

set_option Elab.async false
set_option linter.all false
set_option maxRecDepth 100000
set_option maxHeartbeats 4000000
/-! _law_listed: the law's loop over the generator; _law_grown, _law_count. -/
namespace Eyes
open PySem PySem.Spec PyProof.Rows L2 Evl TL
def spListed (AA : Adr) : Sp := fun vs H Q E => ∃ (v : V) (d : PyData), vs = [v] ∧ Rep H v d ∧ Cl H ∧
  ((numD d 1 6 = false ∧ ∀ dd H', H dd = none → Ex H H' → H' dd = some (.xd [("value", v)]) → E (.ref AA.InvalidNumber) (some dd) H') ∨
   (∃ n : Nat, v = .int n ∧ 1 ≤ n ∧ n ≤ 6 ∧ ∀ r us H', Ex H H' → H r = none → H' r = some (.lst us) → Rws H' us (rowsN n) → Q (.ref r) H'))
section
variable {P : Program} {w : World} {K : PySem.W.Frag} {mg : Str → Option Value} {base : Heap} {AA : Adr}
theorem ok_law_listed (T : Txt K mg AA) : PrX P w K mg base "_law_listed" s_law_listed p_law_listed 5 (spListed AA) := by
  refine prx_mk T.f_law_listed sc_law_listed (fun vs H Q E h => ?_) (fun f cdv A outer s H vs Q E hr h tk => ?_)
  · obtain ⟨v, d, rfl, _⟩ := h
    rfl
  · obtain ⟨v, d, rfl, r, hcl, h⟩ := h
    have tk2 : Takes (cxOf (L2.CX P w) P w K mg base n_law_listed "_law_listed" (defScope s_law_listed) f cdv A outer s H E) (fun cls d _ G => cls = .ref AA.InvalidNumber ∧ E cls d G) := tk.imp fun _ _ _ _ z => z.2
    have hns : ∀ σ : L2.St, NoStop K (WE (fun cls d _ G => cls = .ref AA.InvalidNumber ∧ E cls d G) σ) := fun σ cls d G z => by
      rw [z.1]
      exact T.kstop
    refine ⟨_, pss_cons (ps_set (i := 1) sc_law_listed.nd rfl (.inl rfl) (pe_lst pa_nil)) (pss_cons (ps_forY (jf := 1) (i := 2) (passes_of rfl) rfl sc_law_listed.nd rfl rfl rfl rfl (by decide) (ok_all_partingsY T) hr tk2 hns (pa_cons (pv 0) pa_nil) (test_ge (by rfl) T.n_len rfl rfl)) (pss_one (ps_ret (pv 1)))), ?_⟩
    refine ⟨by show 0 ≤ sizeLine; decide, fun S hS => ?_⟩
    have e1 := Ex.new (o := .lst []) hS
    refine ⟨_, rfl, ?_⟩
    rcases h with ⟨hn, hq⟩ | ⟨n, rfl, h1, h6, hq⟩
    · refine ⟨S, H, fun _ _ => False, fun _ _ => False, _, rfl, upd_same, e1, hcl, hS, ⟨v, d, rfl, r, .inl ⟨hn, fun dd H' nd e he => ?_⟩⟩, .inr ⟨fun _ _ z => z, fun cls d G' z => z⟩, fun _ _ z => z.elim, fun _ _ _ z => z.elim, fun _ _ _ z => z.elim⟩
      intro uf ow
      have nS : dd ≠ S := fun z => by
        have := uf S _ upd_same hS
        rw [z, this] at he
        cases he
      refine ⟨rfl, hq dd _ nd (fun b o z => (mrg_in z).trans (e _ _ z)) ?_⟩
      rw [mrg_new nd (by rw [upd_ne nS]; exact nd)]
      exact he
    · cases r
      refine ⟨S, fun _ => none, fun ys _ => ys.length < 203, fun ys G' => Rws G' ys (rowsN n), fun _ _ _ => False, rfl, upd_same, fun b o z => (nomatch z), ⟨fun _ _ _ _ z => (nomatch z), fun _ _ z => (nomatch z), fun _ _ z => (nomatch z), fun _ _ _ z => (nomatch z), fun _ _ z => (nomatch z)⟩, rfl, ⟨.int n, _, rfl, .int n, .inr ⟨n, rfl, h1, h6, fun us G' e hw => ⟨fun i u hu => ⟨fun _ _ z => (nomatch z), ?_⟩, fun _ _ z => (nomatch z), hw⟩⟩⟩, .inl fun _ _ _ z => z, fun ys x z => ?_, fun ys x y hy _ τ _ => ⟨_, rfl, fun hb => ?_⟩, fun ys G' τ hw uf hτ => ?_⟩
      · have l1 := (List.getElem?_eq_some_iff.mp hu).1
        have l2 := rowsN_le n h6
        show (us.take i).length < 203
        rw [List.length_take]
        rw [hw.1] at l1
        omega
      · have : 1000 < sizeLine := by decide
        omega
      · have := of_decide_eq_true hb
        have hy : ys.length < 203 := hy
        omega
      · have none1 : ∀ b o, G' b = some o → upd (upd H S (.lst [])) S (.lst ys) b = none := fun b o z => by
          have nS : b ≠ S := fun q => by
            have := uf S _ upd_same rfl
            rw [q, this] at z
            cases z
          rw [upd_ne nS]
          cases q : upd H S (.lst []) b with
          | none => rfl
          | some o2 =>
            have := uf b o2 q rfl
            rw [this] at z
            cases z
        refine ⟨.ref S, ?_, hq S ys _ (fun b o z => mrg_out rfl ?_) hS (mrg_out rfl upd_same) ⟨hw.1, fun i u hu => ?_⟩⟩
        · rcases hτ with rfl | ⟨y, rfl⟩ <;> rfl
        · have nS : b ≠ S := fun q => by
            rw [q, hS] at z
            cases z
          rw [upd_ne nS, upd_ne nS]
          exact z
        · obtain ⟨t, c, a1, a2, a3⟩ := hw.2 i u hu
          exact ⟨t, c, a1, a2, (mrg_new rfl (none1 _ _ a3)).trans a3⟩
def flatP (H : Hp) : Hp := fun a => match H a with
  | some (.tup xs) => some (.tup xs)
  | some (.lst xs) => some (.lst xs)
  | _ => none
theorem flatP_tup {H : Hp} {a : Addr} {xs : List V} (h : H a = some (.tup xs)) : flatP H a = some (.tup xs) := by
  unfold flatP
  rw [h]
theorem flatP_lst {H : Hp} {a : Addr} {xs : List V} (h : H a = some (.lst xs)) : flatP H a = some (.lst xs) := by
  unfold flatP
  rw [h]
theorem flatP_of {H : Hp} {a : Addr} {o : HO} (h : flatP H a = some o) : H a = some o ∧ ((∃ xs, o = .tup xs) ∨ ∃ xs, o = .lst xs) := by
  unfold flatP at h
  split at h
  · rename_i xs e
    cases h
    exact ⟨e, .inl ⟨_, rfl⟩⟩
  · rename_i xs e
    cases h
    exact ⟨e, .inr ⟨_, rfl⟩⟩
  · cases h
theorem flatP_cl (H : Hp) : Cl (flatP H) := by
  refine ⟨fun a C dx fs z => ?_, fun a b z => ?_, fun a kvs z => ?_, fun a o u z => ?_, fun a ps z => ?_⟩ <;>
  · rcases (flatP_of z).2 with ⟨_, e⟩ | ⟨_, e⟩ <;> cases e
mutual
theorem Rep.flat {H : Hp} : ∀ {v : V} {d : PyData}, Rep H v d → Rep (flatP H) v d
  | _, _, .non => .non
  | _, _, .bl b => .bl b
  | _, _, .int i => .int i
  | _, _, .str x => .str x
  | _, _, .lst h r => .lst (flatP_lst h) (Reps.flat r)
  | _, _, .tup h r => .tup (flatP_tup h) (Reps.flat r)
theorem Reps.flat {H : Hp} : ∀ {v : List V} {d : List PyData}, Reps H v d → Reps (flatP H) v d
  | _, _, .nil => .nil
  | _, _, .cons h r => .cons (Rep.flat h) (Reps.flat r)
end
def spListedX (AA : Adr) : Sp := fun vs H Q E => ∃ (v : V) (d : PyData), vs = [v] ∧ Rep H v d ∧
  ((numD d 1 6 = false ∧ ∀ dd H', H dd = none → Ex H H' → H' dd = some (.xd [("value", v)]) → E (.ref AA.InvalidNumber) (some dd) H') ∨
   (∃ n : Nat, v = .int n ∧ 1 ≤ n ∧ n ≤ 6 ∧ ∀ r us H', Ex H H' → H r = none → H' r = some (.lst us) → Rws H' us (rowsN n) → Q (.ref r) H'))
theorem ok_law_listedX (T : Txt K mg AA) : PrX P w K mg base "_law_listed" s_law_listed p_law_listed 5 (spListedX AA) := by
  obtain ⟨f, fd, hm, F, hb, R⟩ := PrX.frameX (ok_law_listed (P := P) (w := w) (base := base) T)
  refine ⟨f, fd, hm, F, hb, FnOk.pre R (fun vs H Q E h => ?_) fun vs H Q E _ h => ?_⟩
  · obtain ⟨v, d, rfl, _⟩ := h
    rfl
  · obtain ⟨v, d, rfl, r, h⟩ := h
    have ex : Ex (flatP H) H := fun a o z => (flatP_of z).1
    have big : ∀ {G' : Hp}, Ex (flatP H) G' → Ex H (mrg (flatP H) G' H) := fun {G'} e a o z => by
      cases g : flatP H a with
      | some o2 =>
        rw [mrg_in g]
        have := ex _ _ g
        rw [z] at this
        cases this
        exact e _ _ g
      | none => exact mrg_out g z
    have new : ∀ {G' : Hp}, (∀ a o, H a = some o → flatP H a = none → G' a = none) → Ex (flatP H) G' → ∀ a o, flatP H a = none → G' a = some o → H a = none ∧ mrg (flatP H) G' H a = some o := fun {G'} uf e a o g z => by
      have hn : H a = none := by
        cases q : H a with
        | none => rfl
        | some o2 =>
          have := uf a o2 q g
          rw [z] at this
          cases this
      exact ⟨hn, (mrg_new g hn).trans z⟩
    refine ⟨flatP H, ex, flatP_cl H, v, d, rfl, r.flat, flatP_cl H, ?_⟩
    rcases h with ⟨hn, hq⟩ | ⟨n, rfl, h1, h6, hq⟩
    · refine .inl ⟨hn, fun dd G' nd e he uf _ => ?_⟩
      obtain ⟨a1, a2⟩ := new uf e dd _ nd he
      exact hq dd _ a1 (big e) a2
    · refine .inr ⟨n, rfl, h1, h6, fun q us G' e nq hr hw uf _ => ?_⟩
      obtain ⟨a1, a2⟩ := new uf e q _ nq hr
      refine hq q us _ (big e) a1 a2 ⟨hw.1, fun i u hu => ?_⟩
      obtain ⟨t, c, b1, b2, b3⟩ := hw.2 i u hu
      refine ⟨t, c, b1, b2, ?_⟩
      cases g : flatP H t with
      | some o2 => rw [mrg_in g]; exact b3
      | none => exact (new uf e t _ g b3).2
theorem Rws.appendR {H : Hp} {us vs : List V} {l m : List (List Nat)} (h : Rws H us l) (g : Rws H vs m) : Rws H (us ++ vs) (l ++ m) := by
  refine ⟨by rw [List.length_append, List.length_append, h.1, g.1], fun i u hu => ?_⟩
  by_cases hi : i < us.length
  · rw [List.getElem?_append_left hi] at hu
    obtain ⟨t, c, h1, h2, h3⟩ := h.2 i u hu
    exact ⟨t, c, h1, by rw [List.getElem?_append_left (by rw [← h.1]; exact hi)]; exact h2, h3⟩
  · rw [List.getElem?_append_right (by omega)] at hu
    obtain ⟨t, c, h1, h2, h3⟩ := g.2 _ u hu
    exact ⟨t, c, h1, by rw [List.getElem?_append_right (by rw [← h.1]; omega), ← h.1]; exact h2, h3⟩
def spGrown : Sp := fun vs H Q _ => ∃ n : Nat, vs = [.int (n : Int)] ∧ 1 ≤ n ∧ n ≤ 6 ∧ ∀ r us H', Ex H H' → H' r = some (.lst us) → Rws H' us (rowsN n) → Q (.ref r) H'
theorem ok_law_grown (T : Txt K mg AA) : Pr P w K mg base "_law_grown" s_law_grown p_law_grown 1 spGrown := by
  refine pr_mk T.f_law_grown sc_law_grown (fun vs H Q E h => ?_) (fun f cdv A outer s H vs Q E hr h => ?_)
  · obtain ⟨n, rfl, _⟩ := h
    rfl
  · obtain ⟨n, rfl, h1, h6, q⟩ := h
    refine ⟨_, (pss_cons (ps_set (i := 1) sc_law_grown.nd rfl (.inl rfl) (pe_lst (pa_cons (pe_tup (pa_cons pe_int pa_nil)) pa_nil)))
      (pss_cons (ps_for PassesOwn.never rfl (pi_range2 (by rfl) T.n_range (pa_cons pe_int (pa_cons (pv 0) pa_nil))) (pg_name (i := 2) sc_law_grown.nd rfl (.inl rfl))
      (pss_cons (ps_set (i := 3) sc_law_grown.nd rfl (.inl rfl) (pe_lst pa_nil))
      (pss_cons (ps_for PassesOwn.never rfl (pi_list (pv 1)) (pg_name (i := 4) sc_law_grown.nd rfl (.inr rfl))
      (pss_one (ps_set (i := 3) sc_law_grown.nd rfl (.inl rfl) (pe_op op_cat (pv 3) (pe_lc (own := [("_law_x", 5)]) (g := gName 5) (tt := tYes) rfl sc_law_grown.nd (pi_list (pe_op op_cat (pe_callB (cr_sortedSetK (w := w) rfl rfl) (by rfl) T.n_sorted PyProof.Rows.boot_sorted (pa_cons (pe_callTy (cr_setIK (K := K) (w := w) rfl rfl rfl) (by rfl) T.n_set PyProof.Rows.boot_set (pa_cons (pv 4) pa_nil)) pa_nil)) (pe_lst (pa_cons (pe_op op_add (pv 2) pe_int) pa_nil)))) (blkOk_by (own := [("_law_x", 5)]) (N := n_law_grown) (sc := defScope s_law_grown) (by decide +kernel)) (fun _ _ _ _ _ => (pg_name (i := 5) sc_law_grown.nd rfl (.inl rfl))) (fun _ _ _ _ _ => pts_nil) (fun _ _ _ _ _ => (pe_op (op_catAK (K := K) rfl) (pv 4) (pe_tup (pa_cons (pv 5) pa_nil)))))))))
      (pss_one (ps_set (i := 1) sc_law_grown.nd rfl (.inl rfl) (pv 3))))))
      (pss_one (ps_ret (pv 1))))), ?_⟩
    have big : 100000 < sizeLine := by decide
    refine ⟨by show 1 ≤ sizeLine; decide, fun p0 hp0 => ⟨by show 1 ≤ sizeLine; decide, fun R0 hR0 => ?_⟩⟩
    have e1 := Ex.new (o := .tup [.int 1]) hp0
    have e2 := Ex.new (o := .lst [.ref p0]) hR0
    have w0 : Rws (upd (upd H p0 (.tup [.int 1])) R0 (.lst [.ref p0])) [.ref p0] (rowsN 1) := ⟨(by decide +kernel : 1 = (rowsN 1).length), fun i u hu => by
      match i, hu with
      | 0, hu =>
        cases hu
        exact ⟨p0, [1], rfl, by decide +kernel, e2 _ _ upd_same⟩⟩
    have hR1 : upd (upd H p0 (.tup [.int 1])) R0 (.lst [.ref p0]) R0 = some (.lst [.ref p0]) := upd_same
    have x0 := e1.trans e2
    generalize upd (upd H p0 _) R0 _ = Ha at x0 w0 hR1 ⊢
    refine ⟨_, rfl, 1, (n : Int), rfl, ⟨by decide, by decide, by omega, by omega⟩, ?_⟩
    rw [show ((n : Int) - 1).toNat = n - 1 by omega]
    refine for_it walk_range (fun i σ H' => ∃ (R : Addr) (us : List V) (y2 y3 y4 y5 : Option V), σ = [some (.int n), some (.ref R), y2, y3, y4, y5] ∧ Ex H H' ∧ H' R = some (.lst us) ∧ Rws H' us (rowsN (i + 1))) ⟨R0, [.ref p0], none, none, none, none, rfl, x0, hR1, w0⟩ (fun _ _ _ _ _ => trivial) (fun i v σ H3 H4 hi hp hy => ?_) (fun σ H' hp => ?_)
    · obtain ⟨R, us, y2, y3, y4, y5, rfl, x3, hR, hw⟩ := hp
      obtain ⟨rfl, rfl⟩ := hy
      have rl := rowsN_le (i + 1) (by omega)
      refine ⟨by show 0 ≤ sizeLine; decide, fun L0 hL0 => ?_⟩
      have f0 := Ex.new (o := .lst []) hL0
      refine ⟨_, rfl, R, rfl, ⟨us, sq_of (f0 _ _ hR)⟩, for_it (walk_list (xs := us)) (fun j σ H' => ∃ (Lg : Addr) (ws : List V) (y4 y5 : Option V), σ = [some (.int n), some (.ref R), some (.int (1 + (i : Int))), some (.ref Lg), y4, y5] ∧ Ex H4 H' ∧ H' Lg = some (.lst ws) ∧ Rws H' ws (((rowsN (i + 1)).take j).flatMap (nxtR (i + 2)))) ⟨L0, [], y4, y5, rfl, f0, upd_same, rfl, fun i u hu => by cases hu⟩ (fun _ _ _ _ hq => by obtain ⟨_, _, _, _, _, xq, _⟩ := hq; exact sq_of (xq _ _ hR)) (fun j v σ H5 H6 hj hq hy => ?_) (fun σ H' hq => ?_)⟩
      · obtain ⟨Lg, ws, y4, y5, rfl, x5, hLg, hws⟩ := hq
        obtain ⟨rfl, hv⟩ := hy
        obtain ⟨t, r, rfl, hri, ht⟩ := hw.2 j v hv
        obtain ⟨rlen, rin⟩ := rowsN_ok (List.mem_of_getElem? hri)
        have ht5 := x5 _ _ ht
        refine ⟨_, rfl, _, rfl, t, r.map (fun x : Nat => (x : Int)), rfl, ?_, by rw [List.length_map, rlen]; omega, fun S k kl _ nS => ?_⟩
        · refine .inr (st_of ?_)
          rw [ht5]
          unfold nvs
          rw [List.map_map]
          rfl
        have g1 := Ex.new (o := SetO w S (fun j => decide (j ∈ r.map (fun x : Nat => (x : Int)))) k) nS
        rw [List.length_map, rlen] at kl
        refine ⟨S, _, k, rfl, upd_same, by omega, fun ns L hasc hmem hlen nL => ?_⟩
        obtain rfl := asc_is rin hasc fun y => (hmem y).trans decide_eq_true_iff
        have g2 := Ex.new (o := .lst (((asc (i + 1) r).map fun x : Nat => (x : Int)).map V.int)) nL
        refine ⟨_, rfl, _, 1, rfl, rfl, by show 1 ≤ sizeLine; decide, fun pk npk => ?_⟩
        have g3 := Ex.new (o := .lst [.int (1 + (i : Int) + 1)]) npk
        have hal : (asc (i + 1) r).length ≤ 6 := by
          unfold asc
          refine Nat.le_trans (List.length_filter_le ..) ?_
          rw [List.length_range']
          omega
        refine ⟨L, pk, ((asc (i + 1) r).map fun x : Nat => (x : Int)).map V.int, _, rfl, rfl, g3 _ _ upd_same, upd_same, sz_of (by rw [List.length_map, List.length_map]; show (asc (i + 1) r).length + 1 ≤ 100000; omega), fun pr npr => ?_⟩
        have g4 := Ex.new (o := .lst (((asc (i + 1) r).map fun x : Nat => (x : Int)).map V.int ++ [.int (1 + (i : Int) + 1)])) npr
        have hA : ((asc (i + 1) r).map fun x : Nat => (x : Int)).map V.int ++ [V.int (1 + (i : Int) + 1)] = nvs (asc (i + 2) (r ++ [i + 2])) := by
          rw [asc_more rin]
          unfold nvs
          rw [List.map_append, List.map_map]
          congr 1
          show [V.int _] = [V.int _]
          congr 2
          omega
        have g14 := g1.trans (g2.trans (g3.trans g4))
        refine ⟨pr, rfl, ⟨_, sq_of upd_same⟩, fun D hD => ?_⟩
        have nePr : pr ≠ D := fun z => by
          rw [← z, upd_same] at hD
          cases hD
        have neLg : Lg ≠ D := ne_of_none (g14 _ _ hLg) hD
        have gD : _ = none := fresh_back g14 hD
        refine lc_it (walk_list (xs := nvs (asc (i + 2) (r ++ [i + 2])))) (fun m H' => Ex H6 H' ∧ H' pr = some (.lst (nvs (asc (i + 2) (r ++ [i + 2])))) ∧ H' Lg = some (.lst ws) ∧ Rws H' ws (((rowsN (i + 1)).take j).flatMap (nxtR (i + 2))) ∧ ∃ w2, H' D = some (.lst w2) ∧ Rws H' w2 (((asc (i + 2) (r ++ [i + 2])).take m).map fun x => r ++ [x])) ⟨g14.trans (Ex.new hD), ?_, Ex.new hD _ _ (g14 _ _ hLg), hws.monoR (g14.trans (Ex.new hD)), [], upd_same, rfl, fun i u hu => by cases hu⟩ (fun _ _ _ hz => sq_of hz.2.1) (fun m u H8 H9 hm hz hy8 => ?_) (fun H8 hz => ?_)
        · rw [← hA]
          exact Ex.new hD _ _ upd_same
        · obtain ⟨rfl, hu⟩ := hy8
          obtain ⟨x8, hpr, hLg8, hws8, w2, h2, hw2⟩ := hz
          rw [nvs_len] at hm
          obtain ⟨z, hzm⟩ : ∃ z, (asc (i + 2) (r ++ [i + 2]))[m]? = some z := ⟨_, List.getElem?_eq_getElem hm⟩
          obtain rfl : V.int (z : Int) = u := Option.some.inj ((nvs_get hzm).symm.trans hu)
          refine ⟨rfl, _, rfl, _, rfl, by show 1 ≤ sizeLine; decide, fun pm npm => ?_⟩
          have f1 := Ex.new (o := .tup [.int (z : Int)]) npm
          refine catR (f1 _ _ (x8 _ _ ht5)) upd_same (by omega) fun p2 H12 f2 hp2 => ?_
          have f12 := f1.trans f2
          refine ⟨w2, f12 _ _ h2, ?_, (x8.trans f12).mut gD, (upd_ne nePr).trans (f12 _ _ hpr), (upd_ne neLg).trans (f12 _ _ hLg8), (hws8.monoR f12).putR (f12 _ _ h2), w2 ++ [.ref p2], upd_same, ?_⟩
          · rw [hw2.1, List.length_map, List.length_take]
            have : (asc (i + 2) (r ++ [i + 2])).length ≤ 6 := by
              unfold asc
              refine Nat.le_trans (List.length_filter_le ..) ?_
              rw [List.length_range']
              omega
            omega
          · have htk : (asc (i + 2) (r ++ [i + 2])).take (m + 1) = (asc (i + 2) (r ++ [i + 2])).take m ++ [z] := by
              rw [List.take_add_one, hzm]
              rfl
            rw [htk, List.map_append]
            exact ((hw2.monoR f12).snocR hp2).putR (f12 _ _ h2)
        · obtain ⟨x8, _, hLg8, hws8, w2, h2, hw2⟩ := hz
          rw [nvs_len, List.take_length] at hw2
          have fl := flatR_len (l := (rowsN (i + 1)).take j) (c := i + 2)
          have fl2 : ((rowsN (i + 1)).take j).length * (i + 2) ≤ 203 * 6 := Nat.mul_le_mul (by rw [List.length_take]; omega) (by omega)
          have l2 : (nxtR (i + 2) r).length ≤ 6 := by
            unfold nxtR asc
            rw [List.length_map]
            refine Nat.le_trans (List.length_filter_le ..) ?_
            rw [List.length_range']
            omega
          have hw2 : Rws H8 w2 (nxtR (i + 2) r) := hw2
          refine ⟨Lg, D, ws, w2, rfl, rfl, hLg8, h2, sz_of (by rw [hws8.1, hw2.1]; omega), fun pz npz => ?_⟩
          have f9 := Ex.new (o := .lst (ws ++ w2)) npz
          refine ⟨pz, ws ++ w2, _, _, rfl, x5.trans (x8.trans f9), upd_same, ?_⟩
          rw [List.take_add_one, hri, List.flatMap_append]
          show Rws _ (ws ++ w2) (_ ++ [r].flatMap (nxtR (i + 2)))
          rw [List.flatMap_cons, List.flatMap_nil, List.append_nil]
          exact (hws8.monoR f9).appendR (hw2.monoR f9)
      · obtain ⟨Lg, ws, y4, y5, rfl, x5, hLg, hws⟩ := hq
        rw [List.take_of_length_le (by rw [hw.1]; exact Nat.le_refl _)] at hws
        exact ⟨_, rfl, Lg, ws, _, _, _, _, rfl, x3.trans x5, hLg, hws⟩
    · obtain ⟨R, us, y2, y3, y4, y5, rfl, x3, hR, hw⟩ := hp
      rw [show n - 1 + 1 = n by omega] at hw
      exact ⟨_, rfl, q R us H' x3 hR hw⟩
def spCount : Sp := fun vs H Q _ => ∃ n : Nat, vs = [.int (n : Int)] ∧ 1 ≤ n ∧ n ≤ 6 ∧ ∀ H', Ex H H' → Q (.int ((rowsN n).length : Int)) H'
theorem ok_law_count (T : Txt K mg AA) : Pr P w K mg base "_law_count" s_law_count p_law_count 1 spCount := by
  refine pr_mk T.f_law_count sc_law_count (fun vs H Q E h => ?_) (fun f cdv A outer s H vs Q E hr h => ?_)
  · obtain ⟨n, rfl, _⟩ := h
    rfl
  · obtain ⟨n, rfl, h1, h6, q⟩ := h
    refine ⟨_, (pss_cons (ps_set (i := 1) sc_law_count.nd rfl (.inl rfl) (pe_lst (pa_cons pe_int pa_nil)))
      (pss_cons (ps_for PassesOwn.never rfl (pi_range2 (by rfl) T.n_range (pa_cons pe_int (pa_cons (pv 0) pa_nil))) (pg_name (i := 2) sc_law_count.nd rfl (.inl rfl))
      (pss_cons (ps_set (i := 3) sc_law_count.nd rfl (.inl rfl) (pe_lst (pa_cons (pe_ix (ix_listK (K := K) rfl) (pv 1) (pe_op op_sub (pe_callB (call_len_seqK (K := K) rfl) (by rfl) T.n_len PySem.boot_len (pa_cons (pv 1) pa_nil)) pe_int) (fun _ _ => rfl)) pa_nil)))
      (pss_cons (ps_for PassesOwn.never rfl (pi_list (pe_callTy call_list_of (by rfl) T.n_list PyProof.Rows.boot_list (pa_cons (pv 1) pa_nil))) (pg_name (i := 4) sc_law_count.nd rfl (.inl rfl))
      (pss_one (ps_expr (pe_bm PySem.F.plainAttrs_list PySem.F.slot_list_append PySem.F.type_list_append mt_append (pv 3) (pa_cons (pe_op op_add (pe_ix (ix_listK (K := K) rfl) (pv 3) (pe_op op_sub (pe_callB (call_len_seqK (K := K) rfl) (by rfl) T.n_len PySem.boot_len (pa_cons (pv 3) pa_nil)) pe_int) (fun _ _ => rfl)) (pv 4)) pa_nil)))))
      (pss_one (ps_set (i := 1) sc_law_count.nd rfl (.inl rfl) (pv 3))))))
      (pss_one (ps_ret (pe_ix (ix_listK (K := K) rfl) (pv 1) (pe_op op_sub (pe_callB (call_len_seqK (K := K) rfl) (by rfl) T.n_len PySem.boot_len (pa_cons (pv 1) pa_nil)) pe_int) (fun _ _ => rfl)))))), ?_⟩
    have big : 100000 < sizeLine := by decide
    have lastOf : ∀ {H' : Hp} {F : Addr} {xs : List Nat}, H' F = some (.lst (nvs xs)) → 1 ≤ xs.length → atI (nvs xs) (((nvs xs).length : Int) - 1) = some (.int (xs.getD (xs.length - 1) 0 : Nat)) := fun {H' F xs} _ hl => by
      have e : ((nvs xs).length : Int) - 1 = ((xs.length - 1 : Nat) : Int) := by
        rw [nvs_len]
        omega
      rw [e]
      refine atI_nat (nvs_get ?_)
      rw [List.getD_eq_getElem?_getD, List.getElem?_eq_getElem (by omega)]
      rfl
    refine ⟨by show 1 ≤ sizeLine; decide, fun R0 hR0 => ?_⟩
    have e0 := Ex.new (o := .lst [.int 1]) hR0
    refine ⟨_, rfl, 1, (n : Int), rfl, ⟨by decide, by decide, by omega, by omega⟩, ?_⟩
    rw [show ((n : Int) - 1).toNat = n - 1 by omega]
    refine for_it walk_range (fun i σ H' => ∃ (R : Addr) (y2 y3 y4 : Option V), σ = [some (.int n), some (.ref R), y2, y3, y4] ∧ Ex H H' ∧ H' R = some (.lst (nvs (bell (i + 1))))) ⟨R0, none, none, none, rfl, e0, upd_same⟩ (fun _ _ _ _ _ => trivial) (fun i v σ H3 H4 hi hp hy => ?_) (fun σ H' hp => ?_)
    · obtain ⟨R, y2, y3, y4, rfl, x3, hR⟩ := hp
      obtain ⟨rfl, rfl⟩ := hy
      obtain ⟨bl, bs⟩ := bell_small (i + 1) (by omega) (by omega)
      generalize hrow : bell (i + 1) = row at hR bl bs
      refine ⟨_, rfl, _, rfl, R, _, rfl, .inl (sq_of hR), _, 1, rfl, rfl, R, _, _, _, rfl, rfl, sq_of hR, lastOf hR (by omega), by show 1 ≤ sizeLine; decide, fun B hB => ?_⟩
      have f1 := Ex.new (o := .lst [.int (row.getD (row.length - 1) 0 : Nat)]) hB
      refine ⟨_, rfl, R, _, rfl, .inl (sq_of (f1 _ _ hR)), fun l hl => ⟨l, rfl, ⟨_, sq_of upd_same⟩, ?_⟩⟩
      have f2 := Ex.new (o := .lst (nvs row)) hl
      have neB : B ≠ l := ne_of_none upd_same hl
      refine for_it (walk_list (xs := nvs row)) (fun j σ H' => ∃ (y4 : Option V), σ = [some (.int n), some (.ref R), some (.int (1 + (i : Int))), some (.ref B), y4] ∧ Ex H H' ∧ H' l = some (.lst (nvs row)) ∧ H' B = some (.lst (nvs ((row.take j).foldl (fun b x => b ++ [b.getD (b.length - 1) 0 + x]) [row.getD (row.length - 1) 0])))) ⟨_, rfl, x3.trans (f1.trans f2), upd_same, f2 _ _ upd_same⟩ (fun _ _ _ _ hq => by obtain ⟨_, _, _, hz, _⟩ := hq; exact sq_of hz) (fun j v σ H5 H6 hj hq hy => ?_) (fun σ H' hq => ?_)
      · obtain ⟨y4, rfl, x5, h5, hB5⟩ := hq
        obtain ⟨rfl, hv⟩ := hy
        rw [nvs_len] at hj
        obtain ⟨z, hz⟩ : ∃ z, row[j]? = some z := ⟨_, List.getElem?_eq_getElem hj⟩
        obtain rfl : V.int (z : Int) = v := Option.some.inj ((nvs_get hz).symm.trans hv)
        have len : ∀ (xs b : List Nat), (xs.foldl (fun b x => b ++ [b.getD (b.length - 1) 0 + x]) b).length = b.length + xs.length := fun xs => by
          induction xs with
          | nil => intro b; rfl
          | cons x xs ih =>
            intro b
            rw [List.foldl_cons, ih]
            simp only [List.length_append, List.length_cons, List.length_nil]
            omega
        have lb := len (row.take j) [row.getD (row.length - 1) 0]
        have tk : ((row.take (j + 1)).foldl (fun b x => b ++ [b.getD (b.length - 1) 0 + x]) [row.getD (row.length - 1) 0]) = ((row.take j).foldl (fun b x => b ++ [b.getD (b.length - 1) 0 + x]) [row.getD (row.length - 1) 0]) ++ [((row.take j).foldl (fun b x => b ++ [b.getD (b.length - 1) 0 + x]) [row.getD (row.length - 1) 0]).getD (((row.take j).foldl (fun b x => b ++ [b.getD (b.length - 1) 0 + x]) [row.getD (row.length - 1) 0]).length - 1) 0 + z] := by
          rw [List.take_add_one, hz, List.foldl_append]
          rfl
        generalize (row.take j).foldl (fun b x => b ++ [b.getD (b.length - 1) 0 + x]) [row.getD (row.length - 1) 0] = bb at hB5 lb tk
        rw [List.length_take] at lb
        have lb : bb.length = 1 + min j row.length := lb
        refine ⟨_, rfl, .inl ⟨rfl, _, sq_of hB5⟩, _, rfl, _, rfl, B, _, rfl, .inl (sq_of hB5), _, 1, rfl, rfl, B, _, _, _, rfl, rfl, sq_of hB5, lastOf hB5 (by omega), _, rfl, _, _, rfl, rfl, B, _, _, rfl, rfl, hB5, by rw [nvs_len]; omega, _, rfl, x5.mut (fresh_back x3 hB), (upd_ne (Ne.symm neB)).trans h5, ?_⟩
        rw [upd_same, tk]
        unfold nvs
        rw [List.map_append]
        rfl
      · obtain ⟨y4, rfl, x5, h5, hB5⟩ := hq
        rw [nvs_len, List.take_length] at hB5
        refine ⟨_, rfl, B, _, _, _, rfl, x5, ?_⟩
        rw [hB5, ← hrow]
        rfl
    · obtain ⟨R, y2, y3, y4, rfl, x3, hR⟩ := hp
      rw [show n - 1 + 1 = n by omega] at hR
      obtain ⟨bl, _⟩ := bell_small n h6 h1
      refine ⟨_, rfl, _, rfl, R, _, rfl, .inl (sq_of hR), _, 1, rfl, rfl, R, _, _, _, rfl, rfl, sq_of hR, lastOf hR (by omega), ?_⟩
      rw [bell_is n h6 h1]
      exact q H' x3
end
end Eyes


set_option Elab.async false
set_option linter.all false
set_option maxRecDepth 100000
set_option maxHeartbeats 4000000
/-! The law's word for a case. -/
namespace Eyes
open PySem PySem.Spec PyProof.Rows L2 Evl TL
section
variable {P : Program} {w : World} {K : PySem.W.Frag} {mg : Str → Option Value} {base : Heap} {AA : Adr}
theorem ok_law_is_case (T : Txt K mg AA) : Pr P w K mg base "_law_is_case" s_law_is_case p_law_is_case 1 (fun vs H Q _ => ∃ (v : V) (d : PyData) (n : Int), vs = [v, .int n] ∧ Rep H v d ∧ Q (.bl (numD d 1 n)) H) := by
  refine pr_mk T.f_law_is_case sc_law_is_case (fun vs H Q E h => ?_) (fun f cdv A outer s H vs Q E hr h => ?_)
  · obtain ⟨v, d, n, rfl, _⟩ := h
    rfl
  · obtain ⟨v, d, n, rfl, hv, q⟩ := h
    refine ⟨_, (pss_one (ps_ret (pe_and (pe_callB (call_isiK (K := K) rfl) (by rfl) T.n_isinstance PyProof.Rows.boot_isinstance (pa_cons (pv 0) (pa_cons (pe_bltn (v := .ty "int") (by rfl) T.n_int (by decide +kernel) rfl) pa_nil))) (pe_and (pe_not (pe_callB (call_isiK (K := K) rfl) (by rfl) T.n_isinstance PyProof.Rows.boot_isinstance (pa_cons (pv 0) (pa_cons (pe_bltn (v := .ty "bool") (by rfl) T.n_bool (by decide +kernel) rfl) pa_nil)))) (pe_and (pe_cmpR op_ge (pv 0) pe_int (nomark _)) (pe_one (pe_cmpR op_le (pv 0) (pv 1) (nomark _)))))))), ?_⟩
    cases d with
    | int i =>
      cases hv
      refine ⟨_, rfl, .int i, .ty "int", _, _, true, rfl, .ty _, (Rep.int (H := H) i).ty, kit_ty (a := "int") (by decide +kernel), _, rfl, iteT ⟨_, rfl, .int i, .ty "bool", _, _, false, rfl, .ty _, (Rep.int (H := H) i).ty, kit_ty (a := "int") (by decide +kernel), _, rfl, _, rfl, iteT ?_⟩⟩
      have q : Q (V.bl (decide (1 ≤ i) && decide (i ≤ n))) H := q
      refine ⟨_, rfl, i, 1, rfl, rfl, _, rfl, ite2 (fun h1 => ?_) (fun h1 => ?_)⟩
      · rw [h1] at q
        exact ⟨_, rfl, _, rfl, i, n, rfl, rfl, q⟩
      · rw [show decide (1 ≤ i) = false by cases e : decide (1 ≤ i) with | true => exact absurd e h1 | false => rfl] at q
        exact q
    | bool z =>
      cases hv
      exact ⟨_, rfl, .bl z, .ty "int", _, _, true, rfl, .ty _, (Rep.bl (H := H) z).ty, kit_ty (a := "bool") (by decide +kernel), _, rfl, iteT ⟨_, rfl, .bl z, .ty "bool", _, _, true, rfl, .ty _, (Rep.bl (H := H) z).ty, kit_ty (a := "bool") (by decide +kernel), _, rfl, _, rfl, iteF q⟩⟩
    | none => exact ⟨_, rfl, v, .ty "int", _, _, false, rfl, .ty _, hv.ty, kit_ty (a := "NoneType") (by decide +kernel), _, rfl, iteF q⟩
    | str z => exact ⟨_, rfl, v, .ty "int", _, _, false, rfl, .ty _, hv.ty, kit_ty (a := "str") (by decide +kernel), _, rfl, iteF q⟩
    | list z => exact ⟨_, rfl, v, .ty "int", _, _, false, rfl, .ty _, hv.ty, kit_ty (a := "list") (by decide +kernel), _, rfl, iteF q⟩
    | tuple z => exact ⟨_, rfl, v, .ty "int", _, _, false, rfl, .ty _, hv.ty, kit_ty (a := "tuple") (by decide +kernel), _, rfl, iteF q⟩
    | dict z => exact ⟨_, rfl, v, .ty "int", _, _, false, rfl, .ty _, hv.ty, kit_ty (a := "dict") (by decide +kernel), _, rfl, iteF q⟩
end
end Eyes

set_option Elab.async false
set_option linter.all false
set_option maxRecDepth 100000
set_option maxHeartbeats 4000000
/-! The law's own judge of partings. -/
namespace Eyes
open PySem PySem.Spec PyProof.Rows L2 Evl TL
section
variable {P : Program} {w : World} {K : PySem.W.Frag} {mg : Str → Option Value} {base : Heap} {AA : Adr}
theorem ok_law_is_rows (T : Txt K mg AA) : Pr P w K mg base "_law_is_rows" s_law_is_rows p_law_is_rows 2 (fun vs H Q _ => ∃ (v : V) (d : PyData), vs = [v] ∧ Rep H v d ∧ okV d ∧ Q (.bl (partD d)) H) := by
  refine pr_mk T.f_law_is_rows sc_law_is_rows (fun vs H Q E h => ?_) (fun f cdv A outer s H vs Q E hr h => ?_)
  · obtain ⟨v, d, rfl, _⟩ := h
    rfl
  · obtain ⟨v, d, rfl, hv, ho, q⟩ := h
    refine ⟨_, (pss_cons (ps_if (PW.pt (pw_or (pt_not (pt_val (pe_callB (call_isiK (K := K) rfl) (by rfl) T.n_isinstance PyProof.Rows.boot_isinstance (pa_cons (pv 0) (pa_cons (pe_bltn (v := .ty "tuple") (by rfl) T.n_tuple (by decide +kernel) rfl) pa_nil))))) (pw_or1 (pt_cmpR op_eq (pe_callB (call_len_seqK (K := K) rfl) (by rfl) T.n_len PySem.boot_len (pa_cons (pv 0) pa_nil)) pe_int (nomark _)))))
      (pss_one (ps_ret pe_bl))
      pss_nil)
      (pss_cons (ps_for PassesOwn.never rfl (pi_range1 (by rfl) T.n_range (pa_cons (pe_callB (call_len_seqK (K := K) rfl) (by rfl) T.n_len PySem.boot_len (pa_cons (pv 0) pa_nil)) pa_nil)) (pg_name (i := 1) sc_law_is_rows.nd rfl (.inl rfl))
      (pss_one (ps_if (PW.pt (pw_or (pt_not (pt_val (pcall (ok_law_is_case T) hr (pa_cons (pe_ix (ix_tupK (K := K) rfl) (pv 0) (pv 1) (fun _ _ => rfl)) (pa_cons (pe_op op_add (pv 1) pe_int) pa_nil))))) (pw_or1 (pt_cmpR (op_neD hr.units) (pe_ix (ix_tupK (K := K) rfl) (pv 0) (pe_op op_sub (pe_ix (ix_tupK (K := K) rfl) (pv 0) (pv 1) (fun _ _ => rfl)) pe_int) (fun _ _ => rfl)) (pe_ix (ix_tupK (K := K) rfl) (pv 0) (pv 1) (fun _ _ => rfl)) (nomark _)))))
      (pss_one (ps_ret pe_bl))
      pss_nil)))
      (pss_one (ps_ret pe_bl)))), ?_⟩
    cases d with
    | tuple ds =>
      obtain ⟨hl, hsh⟩ := ho.part
      cases hv with
      | @tup a xs _ hx hR =>
      have hlen := hR.length
      refine ⟨_, rfl, .ref a, .ty "tuple", _, _, true, rfl, .ty _, (Rep.tup hx hR).ty, kit_ty (a := "tuple") (by decide +kernel), _, rfl, iteF ?_⟩
      refine ⟨_, rfl, a, xs, rfl, .inr (st_of hx), rfl, _, rfl, ite2 (fun h0 => ?_) (fun h0 => ?_)⟩
      · have h1 : V.int (xs.length : Int) = V.int 0 := of_decide_eq_true h0
        injection h1 with h1
        have h2 : ds = [] := List.length_eq_zero_iff.mp (by omega)
        rw [h2] at q
        exact q
      · have h2 : ds ≠ [] := fun z => h0 (by
          rw [z] at hlen
          rw [hlen]
          rfl)
        have hpd : partD (.tuple ds) = (List.range xs.length).all fun k => itemD ds k := by
          show (decide (ds ≠ []) && _) = _
          rw [decide_eq_true h2, Bool.true_and, hlen]
        refine ⟨_, rfl, a, xs, rfl, .inr (st_of hx), _, rfl, by omega, by omega, ?_⟩
        rw [show ((xs.length : Nat) : Int).toNat = xs.length by omega]
        refine for_it walk_range (fun i σ H' => H' = H ∧ (∃ y, σ = [some (.ref a), y]) ∧ ∀ j, j < i → itemD ds j = true) ⟨rfl, ⟨none, rfl⟩, fun j hj => absurd hj (Nat.not_lt_zero _)⟩ (fun _ _ _ _ _ => trivial) (fun i v σ H3 H4 hi hp hy => ?_) (fun σ H' hp => ?_)
        · obtain ⟨rfl, ⟨y, rfl⟩, hpre⟩ := hp
          obtain ⟨rfl, rfl⟩ := hy
          obtain ⟨d, hd, hv⟩ := hR.get (List.getElem?_eq_getElem hi)
          have hxi : xs[i]? = some xs[i] := List.getElem?_eq_getElem hi
          generalize xs[i] = v at hv hxi
          have z0 : (0 : Int) + (i : Int) = (i : Int) := Int.zero_add _
          have hat : atI xs (0 + (i : Int)) = some v := by
            rw [z0]
            exact atI_nat hxi
          have stop : itemD ds i = false → Q (.bl false) H4 := fun hf => by
            have : partD (.tuple ds) = false := by
              rw [hpd, ← Bool.not_eq_true, List.all_eq_true]
              intro hall
              have := hall i (List.mem_range.mpr hi)
              rw [hf] at this
              cases this
            rw [this] at q
            exact q
          have next : itemD ds i = true → (H4 = H4 ∧ (∃ y, [some (V.ref a), some (V.int (0 + (i : Int)))] = [some (V.ref a), y]) ∧ ∀ j, j < i + 1 → itemD ds j = true) := fun ht => ⟨rfl, ⟨_, rfl⟩, fun j hj => by
            rcases Nat.lt_or_ge j i with z | z
            · exact hpre j z
            · obtain rfl : j = i := by omega
              exact ht⟩
          refine ⟨_, rfl, _, rfl, a, _, _, v, rfl, rfl, st_of hx, hat, _, rfl, _, 1, rfl, rfl, v, d, _, rfl, hv, ?_⟩
          rw [z0]
          cases hn : numD d 1 ((i : Int) + 1) with
          | false => exact ⟨_, rfl, iteT (iteT (stop (itemD_no hd hn)))⟩
          | true =>
            cases d with
            | int m =>
              cases hv
              have hm : 1 ≤ m ∧ m ≤ (i : Int) + 1 := by
                have h : (decide (1 ≤ m) && decide (m ≤ (i : Int) + 1)) = true := hn
                rw [Bool.and_eq_true] at h
                exact ⟨of_decide_eq_true h.1, of_decide_eq_true h.2⟩
              have hj : (m - 1).toNat < xs.length := by omega
              obtain ⟨e, he, hve⟩ := hR.get (List.getElem?_eq_getElem hj)
              have hxe : xs[(m - 1).toNat]? = some xs[(m - 1).toNat] := List.getElem?_eq_getElem hj
              generalize xs[(m - 1).toNat] = v2 at hve hxe
              have hit := itemD_int hd hn he
              refine ⟨_, rfl, iteF ?_⟩
              refine ⟨_, rfl, _, rfl, _, rfl, a, _, _, .int m, rfl, rfl, st_of hx, hat, m, 1, rfl, rfl, a, _, _, v2, rfl, rfl, st_of hx, at_of' (by omega) hxe, _, rfl, _, rfl, a, _, _, .int m, rfl, rfl, st_of hx, hat, ?_⟩
              refine ⟨e, .int m, hve.dp, .int m, hsh e (List.mem_of_getElem? he), rfl, _, rfl, ?_⟩
              cases hq : PyData.eqv e (.int m) with
              | true => exact iteF (next (by rw [hit, hq]))
              | false => exact iteT (stop (by rw [hit, hq]))
            | _ => cases hn
        · obtain ⟨rfl, ⟨y, rfl⟩, hpre⟩ := hp
          have : partD (.tuple ds) = true := by
            rw [hpd, List.all_eq_true]
            exact fun j hj => hpre j (List.mem_range.mp hj)
          rw [this] at q
          exact q
    | none => exact ⟨_, rfl, v, .ty "tuple", _, _, false, rfl, .ty _, hv.ty, kit_ty (a := "NoneType") (by decide +kernel), _, rfl, iteT (iteT q)⟩
    | bool z => exact ⟨_, rfl, v, .ty "tuple", _, _, false, rfl, .ty _, hv.ty, kit_ty (a := "bool") (by decide +kernel), _, rfl, iteT (iteT q)⟩
    | int z => exact ⟨_, rfl, v, .ty "tuple", _, _, false, rfl, .ty _, hv.ty, kit_ty (a := "int") (by decide +kernel), _, rfl, iteT (iteT q)⟩
    | str z => exact ⟨_, rfl, v, .ty "tuple", _, _, false, rfl, .ty _, hv.ty, kit_ty (a := "str") (by decide +kernel), _, rfl, iteT (iteT q)⟩
    | list z => exact ⟨_, rfl, v, .ty "tuple", _, _, false, rfl, .ty _, hv.ty, kit_ty (a := "list") (by decide +kernel), _, rfl, iteT (iteT q)⟩
    | dict z => exact ⟨_, rfl, v, .ty "tuple", _, _, false, rfl, .ty _, hv.ty, kit_ty (a := "dict") (by decide +kernel), _, rfl, iteT (iteT q)⟩
end
end Eyes

set_option Elab.async false
set_option linter.all false
set_option maxRecDepth 100000
set_option maxHeartbeats 4000000
namespace Eyes
open PySem PySem.Spec PyProof.Rows L2 Evl TL
/-! ### the law's own words about partings -/
def Err3 (AA : Adr) (cls : Value) (n f : Str) : Prop := (cls = .ref AA.InvalidNumber ∧ n = "InvalidNumber" ∧ f = "value") ∨ (cls = .ref AA.InvalidTie ∧ n = "InvalidTie" ∧ f = "at") ∨ (cls = .ref AA.InvalidParting ∧ n = "InvalidParting" ∧ f = "value")
def Told3 (AA : Adr) (Q : VK) : XK := fun cls d H1 => ∃ (n f : Str) (dd : Addr) (v : V), Err3 AA cls n f ∧ d = some dd ∧ H1 dd = some (.xd [(f, v)]) ∧ ∀ p1 p2 H', Ex H1 H' → H' p1 = some (.tup [v]) → H' p2 = some (.tup [.str n, .ref p1]) → Q (.ref p2) H'
def tTry3 (AA : Adr) : (XK → Hp → VK → Prop) → Hp → VK → Prop := fun tl H Q => ∃ (E1 : XK) (Q1 : VK), tl E1 H Q1 ∧ (∀ v H1, Q1 v H1 → ∀ p H', Ex H1 H' → H' p = some (.tup [.str "", v]) → Q (.ref p) H') ∧ ∀ cls d H1, E1 cls d H1 → Told3 AA Q cls d H1
def tWhy3 (AA : Adr) : (XK → Hp → VK → Prop) → Hp → VK → Prop := fun tl H Q => ∃ (E1 : XK) (Q1 : VK), tl E1 H Q1 ∧ (∀ v H1, Q1 v H1 → ∀ p1 p2 H', Ex H1 H' → H' p1 = some (.tup []) → H' p2 = some (.tup [.str "", .ref p1]) → Q (.ref p2) H') ∧ ∀ cls d H1, E1 cls d H1 → Told3 AA Q cls d H1
section
variable {P : Program} {w : World} {K : PySem.W.Frag} {mg : Str → Option Value} {base : Heap} {AA : Adr}
theorem ok_law_try3 (T : Txt K mg AA) : PrC P w K mg base "_law_try" 10 12 (tTry3 AA) := by
  refine prC_mk T.f_law_try sc_law_try (fun g cdg A outer s H f c' q tl Q hr C hc ht => ?_)
  refine ⟨_, pss_one (ps_tryAs rfl rfl sc_law_try.nd (fun W pn xe tk po => pss_one (ps_ret (pe_tup (pa_cons pe_str (pa_cons (pe_ask2 (CXg := C8.CX0) (Eg := C8.E0) (i := 0) C tk (hr.mono (by decide)) rfl (.inl rfl)) pa_nil))))) (.cons (j := 1) ⟨rfl, by decide, .inl T.e_InvalidName.gC⟩ rfl rfl (fun e oe cls d pn hz hd => pss_one (ps_ret (pe_tup (pa_cons pe_str (pa_cons (pe_tup (pa_cons (pe_xf T.e_InvalidName.xf T.a_InvalidName_value hz hd (pv 1)) pa_nil)) pa_nil)))))
        (.cons (j := 1) ⟨rfl, by decide, .inl T.e_InvalidNumber.gC⟩ rfl rfl (fun e oe cls d pn hz hd => pss_one (ps_ret (pe_tup (pa_cons pe_str (pa_cons (pe_tup (pa_cons (pe_xf T.e_InvalidNumber.xf T.a_InvalidNumber_value hz hd (pv 1)) pa_nil)) pa_nil)))))
        (.cons (j := 1) ⟨rfl, by decide, .inl T.e_InvalidText.gC⟩ rfl rfl (fun e oe cls d pn hz hd => pss_one (ps_ret (pe_tup (pa_cons pe_str (pa_cons (pe_tup (pa_cons (pe_xf T.e_InvalidText.xf T.a_InvalidText_at hz hd (pv 1)) pa_nil)) pa_nil)))))
        (.cons (j := 1) ⟨rfl, by decide, .inl T.e_InvalidCircle.gC⟩ rfl rfl (fun e oe cls d pn hz hd => pss_one (ps_ret (pe_tup (pa_cons pe_str (pa_cons (pe_tup (pa_cons (pe_xf T.e_InvalidCircle.xf T.a_InvalidCircle_at hz hd (pv 1)) pa_nil)) pa_nil)))))
        (.cons (j := 1) ⟨rfl, by decide, .inl T.e_InvalidTie.gC⟩ rfl rfl (fun e oe cls d pn hz hd => pss_one (ps_ret (pe_tup (pa_cons pe_str (pa_cons (pe_tup (pa_cons (pe_xf T.e_InvalidTie.xf T.a_InvalidTie_at hz hd (pv 1)) pa_nil)) pa_nil)))))
        (.cons (j := 1) ⟨rfl, by decide, .inl T.e_InvalidParting.gC⟩ rfl rfl (fun e oe cls d pn hz hd => pss_one (ps_ret (pe_tup (pa_cons pe_str (pa_cons (pe_tup (pa_cons (pe_xf T.e_InvalidParting.xf T.a_InvalidParting_value hz hd (pv 1)) pa_nil)) pa_nil)))))
        (.cons (j := 1) ⟨rfl, by decide, .inl T.e_InvalidCase.gC⟩ rfl rfl (fun e oe cls d pn hz hd => pss_one (ps_ret (pe_tup (pa_cons pe_str (pa_cons (pe_tup (pa_cons (pe_xf T.e_InvalidCase.xf T.a_InvalidCase_value hz hd (pv 1)) pa_nil)) pa_nil)))))
        (.cons (j := 1) ⟨rfl, by decide, .inl T.e_TooMany.gC⟩ rfl rfl (fun e oe cls d pn hz hd => pss_one (ps_ret (pe_tup (pa_cons pe_str (pa_cons (pe_tup (pa_cons (pe_xf T.e_TooMany.xf T.a_TooMany_what hz hd (pv 1)) (pa_cons (pe_xf T.e_TooMany.xf T.a_TooMany_most hz hd (pv 1)) pa_nil))) pa_nil)))))
        HdsAs.rest))))))))), ?_⟩
  obtain ⟨E1, Q1, ht, hQ, hE⟩ := ht
  refine ⟨rfl, hc, _, _, ht, fun v H1 h => ⟨by show 2 ≤ sizeLine; decide, fun p hp => hQ v H1 h p _ (Ex.new hp) upd_same⟩, fun cls d H1 h => ?_⟩
  obtain ⟨n, f, dd, v, he, rfl, hx, h⟩ := hE _ _ _ h
  have fin : ∀ p1, H1 p1 = none → ∀ p2, upd H1 p1 (.tup [v]) p2 = none → Q (.ref p2) (upd (upd H1 p1 (.tup [v])) p2 (.tup [.str n, .ref p1])) := fun p1 hp1 p2 hp2 => h p1 p2 _ ((Ex.new hp1).trans (Ex.new hp2)) (Ex.new hp2 _ _ upd_same) upd_same
  rcases he with ⟨rfl, rfl, rfl⟩ | ⟨rfl, rfl, rfl⟩ | ⟨rfl, rfl, rfl⟩
  · refine ⟨_, T.x_InvalidNumber_InvalidName, fun z => (nomatch z), fun _ => ⟨_, T.x_InvalidNumber_InvalidNumber, fun _ e he => ?_, fun z => (nomatch z)⟩⟩
    exact ⟨_, rfl, rfl, rfl, dd, _, v, rfl, hx, rfl, by show 1 ≤ sizeLine; decide, fun p1 hp1 => ⟨by show 2 ≤ sizeLine; decide, fun p2 hp2 => fin p1 hp1 p2 hp2⟩⟩
  · refine ⟨_, T.x_InvalidTie_InvalidName, fun z => (nomatch z), fun _ => ⟨_, T.x_InvalidTie_InvalidNumber, fun z => (nomatch z), fun _ => ⟨_, T.x_InvalidTie_InvalidText, fun z => (nomatch z), fun _ => ⟨_, T.x_InvalidTie_InvalidCircle, fun z => (nomatch z), fun _ => ⟨_, T.x_InvalidTie_InvalidTie, fun _ e he => ?_, fun z => (nomatch z)⟩⟩⟩⟩⟩
    exact ⟨_, rfl, rfl, rfl, dd, _, v, rfl, hx, rfl, by show 1 ≤ sizeLine; decide, fun p1 hp1 => ⟨by show 2 ≤ sizeLine; decide, fun p2 hp2 => fin p1 hp1 p2 hp2⟩⟩
  · refine ⟨_, T.x_InvalidParting_InvalidName, fun z => (nomatch z), fun _ => ⟨_, T.x_InvalidParting_InvalidNumber, fun z => (nomatch z), fun _ => ⟨_, T.x_InvalidParting_InvalidText, fun z => (nomatch z), fun _ => ⟨_, T.x_InvalidParting_InvalidCircle, fun z => (nomatch z), fun _ => ⟨_, T.x_InvalidParting_InvalidTie, fun z => (nomatch z), fun _ => ⟨_, T.x_InvalidParting_InvalidParting, fun _ e he => ?_, fun z => (nomatch z)⟩⟩⟩⟩⟩⟩
    exact ⟨_, rfl, rfl, rfl, dd, _, v, rfl, hx, rfl, by show 1 ≤ sizeLine; decide, fun p1 hp1 => ⟨by show 2 ≤ sizeLine; decide, fun p2 hp2 => fin p1 hp1 p2 hp2⟩⟩
theorem ok_law_why3 (T : Txt K mg AA) : PrC P w K mg base "_law_why" 10 13 (tWhy3 AA) := by
  refine prC_mk T.f_law_why sc_law_why (fun g cdg A outer s H f c' q tl Q hr C hc ht => ?_)
  refine ⟨_, pss_cons (ps_set (i := 1) sc_law_why.nd rfl (.inl rfl) (pe_hand (CXg := C8.CX0) (Eg := C8.E0) (i := 0) (ok_law_try3 T) C hr rfl (.inl rfl))) (pss_one (ps_ret (pe_ifExp (pt_cmpR op_ne (pe_ix (ix_tupK (K := K) rfl) (pv 1) pe_int (fun _ _ => rfl)) pe_str (nomark _)) (pv 1) (pe_tup (pa_cons pe_str (pa_cons (pe_tup pa_nil) pa_nil)))))), ?_⟩
  obtain ⟨E1, Q1, ht, hQ, hE⟩ := ht
  refine ⟨rfl, hc, E1, Q1, ht, fun v H1 h p H2 e2 h2 => ?_, fun cls d H1 h => ?_⟩
  · refine ⟨_, rfl, p, _, 0, _, rfl, rfl, st_of h2, rfl, rfl, _, rfl, ?_⟩
    refine iteF ?_
    refine ⟨by show 0 ≤ sizeLine; decide, fun p1 hp1 => ⟨by show 2 ≤ sizeLine; decide, fun p2 hp2 => ?_⟩⟩
    exact hQ v H1 h p1 p2 _ (e2.trans ((Ex.new hp1).trans (Ex.new hp2))) (Ex.new hp2 _ _ upd_same) upd_same
  · obtain ⟨n, f, dd, v, he, hd, hx, h⟩ := hE _ _ _ h
    refine ⟨n, f, dd, v, he, hd, hx, fun p1 p2 H2 e2 h1 h2 => ?_⟩
    have hn : n ≠ "" := by
      rcases he with ⟨_, rfl, _⟩ | ⟨_, rfl, _⟩ | ⟨_, rfl, _⟩ <;> decide +kernel
    refine ⟨_, rfl, p2, _, 0, _, rfl, rfl, st_of h2, rfl, rfl, _, rfl, ?_⟩
    have hd : decide (V.str n = V.str (Str.ofString "")) = false := decide_eq_false fun z => hn (V.str.inj z)
    rw [hd]
    exact iteT ⟨_, rfl, h p1 p2 _ e2 h1 h2⟩
end
end Eyes

set_option Elab.async false
set_option linter.all false
set_option maxRecDepth 100000
set_option maxHeartbeats 4000000
namespace Eyes
open PySem PySem.Spec PyProof.Rows L2 Evl TL
def besN (p q : List Nat) : List Nat := p ++ q.map (· + p.length)
def spBeside (K : PySem.W.Frag) : Sp := fun vs H Q _ => ∃ (a b : Addr) (p q : List Nat), vs = [.ref a, .ref b] ∧ (1 ≤ p.length ∧ p.length ≤ 4096) ∧ (1 ≤ q.length ∧ q.length ≤ 4096) ∧ SqT K H a (nvs p) ∧ SqT K H b (nvs q) ∧ ∀ r H', Ex H H' → H r = none → H' r = some (.tup (nvs (besN p q))) → Q (.ref r) H'
section
variable {P : Program} {w : World} {K : PySem.W.Frag} {mg : Str → Option Value} {base : Heap} {AA : Adr}
end
end Eyes

set_option Elab.async false
set_option linter.all false
set_option maxRecDepth 100000
set_option maxHeartbeats 4000000
namespace Eyes
open PySem PySem.Spec PyProof.Rows L2 Evl TL
def narN (p cs : List Nat) : List Nat := firsts (cs.map (itm p))
def spNarrowed (K : PySem.W.Frag) : Sp := fun vs H Q _ => ∃ (a b : Addr) (p cs : List Nat), vs = [.ref a, .ref b] ∧ cs.length ≤ 4096 ∧ (∀ c ∈ cs, 1 ≤ c ∧ c ≤ p.length) ∧ SqT K H a (nvs p) ∧ SqL K H b (nvs cs) ∧ ∀ r H', Ex H H' → H r = none → H' r = some (.tup (nvs (narN p cs))) → Q (.ref r) H'
section
variable {P : Program} {w : World} {K : PySem.W.Frag} {mg : Str → Option Value} {base : Heap} {AA : Adr}
end
end Eyes

set_option Elab.async false
set_option linter.all false
set_option maxRecDepth 100000
set_option maxHeartbeats 4000000
namespace Eyes
open PySem PySem.Spec PyProof.Rows L2 Evl TL
theorem mt_indexDK {X : Cx} {K : PySem.W.Frag} (hK : X.K = K) (hu : X.A.units + 65 < cLine) : MtR X "list.index" (rIndexD K) := hK ▸ mt_indexD hu
section
variable {X : Cx} {K : PySem.W.Frag} {o e : Expr} {es : List Expr} {to : TE} {t : TA} {name : Str} {apos cpos : Pos} {T id : String} {r : V → List V → Hp → VK → Prop}
theorem pe_bmN (hK : X.K = K) (pa : PlainAttrs T) (slot : Slot T name id) (hty : typeOf (.builtin id) = pure (.type "method_descriptor")) (hm : MtR X id r) (ho : PE X o to) (ha : PA X (e :: es) t)
    (hbase : attributeBase o name X.env (eval o X.env) = eval o X.env := by rfl)
    (hfew : ((backTo cpos (starEach (e :: es) X.env)).all (fun x => !x.1) && (backToKw cpos (keywordEach [] X.env)).all (fun x => x.1.isSome) && decide ((e :: es).length + ([] : List Keyword).length + (if ([] : List Keyword).isEmpty then 0 else 1) < 30)) = true := by rfl)
    (hline : (apos.endLine == cpos.line) = true := by rfl) (hs : starEach (e :: es) X.env = (false, eval e X.env) :: starEach es X.env := by rfl) (hplain : (backTo cpos (starEach es X.env)).any (·.1) = false := by rfl) : PE X (.Call (.Attribute o name apos) (e :: es) [] cpos) (tBM K T r to t) := by
  subst hK
  exact pe_bm pa slot hty hm ho ha hbase hfew hline hs hplain
end
theorem isP_snoc {k v : Nat} {p : List Nat} (h : IsP k p) (hv : v = k + 1 ∨ v ∈ p) : IsP (k + 1) (p ++ [v]) := by
  have it : ∀ x, 1 ≤ x → x ≤ k → itm (p ++ [v]) x = itm p x := fun x h1 h2 => by
    unfold itm
    rw [List.getD_eq_getElem?_getD, List.getD_eq_getElem?_getD, List.getElem?_append_left (by rw [h.len]; omega)]
  have il : itm (p ++ [v]) (k + 1) = v := by
    unfold itm
    rw [List.getD_eq_getElem?_getD, List.getElem?_append_right (by rw [h.len]; omega), h.len, Nat.add_sub_cancel, Nat.sub_self]
    rfl
  have hm : v = k + 1 ∨ (1 ≤ v ∧ v ≤ k ∧ itm p v = v) := by
    rcases hv with e | hv
    · exact .inl e
    · obtain ⟨i, hi⟩ := List.getElem?_of_mem hv
      have hl := (List.getElem?_eq_some_iff.mp hi).1
      rw [h.len] at hl
      have e : itm p (i + 1) = v := by
        unfold itm
        rw [List.getD_eq_getElem?_getD, Nat.add_sub_cancel, hi]
        rfl
      have lo := h.lo (i + 1) (by omega) (by omega)
      have rt := h.rt (i + 1) (by omega) (by omega)
      rw [e] at lo rt
      exact .inr ⟨lo.1, by omega, rt⟩
  refine ⟨by rw [List.length_append, h.len]; rfl, fun x h1 h2 => ?_, fun x h1 h2 => ?_⟩
  · rcases Nat.lt_or_ge k x with z | z
    · obtain rfl : x = k + 1 := by omega
      rw [il]
      omega
    · rw [it x h1 z]
      exact h.lo x h1 z
  · rcases Nat.lt_or_ge k x with z | z
    · obtain rfl : x = k + 1 := by omega
      rw [il]
      rcases hm with e | ⟨e1, e2, e3⟩
      · rw [e]
        rw [e] at il
        exact il
      · rw [it v e1 e2]
        exact e3
    · rw [it x h1 z]
      have lo := h.lo x h1 z
      rw [it _ lo.1 (by omega)]
      exact h.rt x h1 z
theorem isP_nil : IsP 0 [] := ⟨rfl, fun x h1 h2 => absurd h1 (by omega), fun x h1 h2 => absurd h1 (by omega)⟩
def pairsD (p q : List Nat) (n : Nat) : List PyData := (List.range n).map fun k => .tuple [.int (itm p (k + 1) : Int), .int (itm q (k + 1) : Int)]
theorem eqv_pair {a b c d : Int} : PyData.eqv (.tuple [.int a, .int b]) (.tuple [.int c, .int d]) = (decide (a = c) && decide (b = d)) := by
  show ((a == c) && ((b == d) && true)) = _
  rw [Bool.and_true]
  rfl
mutual
theorem dp_mono {K : PySem.W.Frag} {H H' : Hp} (e : Ex H H') : ∀ {v : V} {d : PyData}, Dp K H v d → Dp K H' v d
  | _, _, .non => .non
  | _, _, .bl b => .bl b
  | _, _, .int i => .int i
  | _, _, .str x => .str x
  | _, _, .lst h r => .lst (ex_l e h) (dpAll_mono e r)
  | _, _, .tup h r => .tup (ex_t e h) (dpAll_mono e r)
theorem dpAll_mono {K : PySem.W.Frag} {H H' : Hp} (e : Ex H H') : ∀ {us : List V} {ds : List PyData}, DpAll K H us ds → DpAll K H' us ds
  | _, _, .nil => .nil
  | _, _, .cons h r => .cons (dp_mono e h) (dpAll_mono e r)
end
theorem dpAll_of {K : PySem.W.Frag} {H : Hp} : ∀ {us : List V} {ds : List PyData}, us.length = ds.length → (∀ (i : Nat) u d, us[i]? = some u → ds[i]? = some d → Dp K H u d) → DpAll K H us ds
  | [], [], _, _ => .nil
  | [], _ :: _, h, _ => by cases h
  | _ :: _, [], h, _ => by cases h
  | u :: us, d :: ds, h, f => .cons (f 0 u d rfl rfl) (dpAll_of (by simpa using h) fun i u d e1 e2 => f (i + 1) u d e1 e2)
theorem layAll_of : ∀ {ds : List PyData}, (∀ d ∈ ds, PyData.canLay0 d = true) → PyData.canLayAll0 ds = true
  | [], _ => rfl
  | d :: ds, h => by
    show (PyData.canLay0 d && PyData.canLayAll0 ds) = true
    rw [h d List.mem_cons_self, layAll_of fun e he => h e (List.mem_cons_of_mem _ he)]
    rfl
theorem depthAll_of {k : Nat} : ∀ {ds : List PyData}, (∀ d ∈ ds, d.depth ≤ k) → PyData.depthAll ds ≤ k
  | [], _ => Nat.zero_le _
  | d :: ds, h => by
    show max d.depth (PyData.depthAll ds) ≤ k
    have a := h d List.mem_cons_self
    have b := depthAll_of fun e he => h e (List.mem_cons_of_mem _ he)
    omega
theorem shaped_list {ds : List PyData} (h : ∀ d ∈ ds, PyData.canLay0 d = true ∧ d.depth ≤ 60) : SeqAt.shaped (.list ds) = true := by
  unfold SeqAt.shaped
  rw [show PyData.canLay0 (.list ds) = true from layAll_of fun d hd => (h d hd).1, decide_eq_true (show PyData.depth (.list ds) ≤ 64 by
    show PyData.depthAll ds + 1 ≤ 64
    have := depthAll_of fun d hd => (h d hd).2
    omega)]
  rfl
theorem pairsD_get {p q : List Nat} {n i : Nat} (h : i < n) : (pairsD p q n)[i]? = some (.tuple [.int (itm p (i + 1) : Int), .int (itm q (i + 1) : Int)]) := by
  unfold pairsD
  rw [List.getElem?_map, List.getElem?_range h]
  rfl
theorem pairsD_len {p q : List Nat} {n : Nat} : (pairsD p q n).length = n := by
  unfold pairsD
  rw [List.length_map, List.length_range]
theorem keysN_at {p q : List Nat} {n i : Nat} (h : i < n) : (keysN n [p, q])[i]? = some [itm p (i + 1), itm q (i + 1)] := keysN_get (x := i + 1) (by omega) (by omega)
theorem firsts_at {α : Type} [DecidableEq α] {ks : List α} {i : Nat} {k : α} (h : ks[i]? = some k) : ∃ j, ks[j]? = some k ∧ j ≤ i ∧ (firsts ks)[i]? = some (j + 1) ∧ ∀ m, ks[m]? = some k → j ≤ m :=
  ⟨ks.idxOf k, idx_get (List.mem_of_getElem? h), idx_le h, firsts_get h, fun m hm => idx_le hm⟩
def spMetL (K : PySem.W.Frag) : Sp := fun vs H Q _ => ∃ (n : Nat) (a b : Addr) (p q : List Nat), vs = [.ref a, .ref b] ∧ SqT K H a (nvs p) ∧ SqT K H b (nvs q) ∧ IsP n p ∧ IsP n q ∧ 1 ≤ n ∧ n ≤ 4096 ∧ ∀ r H', Ex H H' → H r = none → H' r = some (.tup (nvs (metN n [p, q]))) → Q (.ref r) H'
section
variable {P : Program} {w : World} {K : PySem.W.Frag} {mg : Str → Option Value} {base : Heap} {AA : Adr}
theorem ok_law_met (T : Txt K mg AA) : Pr P w K mg base "_law_met" s_law_met p_law_met 1 (spMetL K) := by
  refine pr_mk T.f_law_met sc_law_met (fun vs H Q E h => ?_) (fun f cdv A outer s H vs Q E hr h => ?_)
  · obtain ⟨n, a, b, p, q, rfl, _⟩ := h
    rfl
  · obtain ⟨n, a, b, p, q, rfl, ha, hb, hP, hQ, h1, hn, qq⟩ := h
    refine ⟨_, (pss_cons (ps_set (i := 2) sc_law_met.nd rfl (.inr rfl) (pe_listZ rfl (by rfl) T.n_list (by rfl) T.n_zip (pa_cons (pv 0) (pa_cons (pv 1) pa_nil))))
      (pss_one (ps_ret (pe_callTy call_tuple_of (by rfl) T.n_tuple PyProof.Rows.boot_tuple (pa_cons (pe_lc (own := [("_law_x", 3)]) (g := gName 3) (tt := tYes) rfl sc_law_met.nd (pi_list (pv 2)) (blkOk_by (own := [("_law_x", 3)]) (N := n_law_met) (sc := defScope s_law_met) (by decide +kernel)) (fun _ _ _ _ _ => (pg_name (i := 3) sc_law_met.nd rfl (.inl rfl))) (fun _ _ _ _ _ => pts_nil) (fun _ _ _ _ _ => (pe_op op_add (pe_bmN (K := K) rfl PySem.F.plainAttrs_list PySem.F.slot_list_index PySem.F.type_list_index (mt_indexDK (K := K) rfl (u65 hr)) (pv 2) (pa_cons (pv 3) pa_nil)) pe_int))) pa_nil))))), ?_⟩
    refine ⟨_, rfl, _, rfl, a, b, rfl, nvs p, nvs q, ha, hb, by rw [nvs_len, nvs_len, hP.len, hQ.len], by rw [nvs_len, hP.len]; omega, by rw [nvs_len, hP.len]; omega, fun z us H2 e2 nz hz hus hel => ?_⟩
    rw [nvs_len, hP.len] at hus
    have hd : DpAll K H2 us (pairsD p q n) := dpAll_of (by rw [pairsD_len]; exact hus) fun i u d hu hdd => by
      have hi : i < n := by rw [← hus]; exact (List.getElem?_eq_some_iff.mp hu).1
      obtain ⟨t, ht, _, ht2⟩ := hel i _ _ (nvs_get (itm_get (x := i + 1) (by omega) (by rw [hP.len]; omega))) (nvs_get (itm_get (x := i + 1) (by omega) (by rw [hQ.len]; omega)))
      rw [hu] at ht
      cases ht
      rw [pairsD_get hi] at hdd
      cases hdd
      exact .tup (st_of ht2) (.cons (.int _) (.cons (.int _) .nil))
    have hsh : SeqAt.shaped (.list (pairsD p q n)) = true := shaped_list fun d hdd => by
      obtain ⟨i, hi⟩ := List.getElem?_of_mem hdd
      have hl := (List.getElem?_eq_some_iff.mp hi).1
      rw [pairsD_len] at hl
      rw [pairsD_get hl] at hi
      cases hi
      exact ⟨rfl, by show 1 ≤ 60; decide⟩
    refine ⟨_, rfl, z, rfl, ⟨us, sq_of hz⟩, fun D hD => ?_⟩
    refine lc_it (walk_list (xs := us)) (fun i H' => Ex H2 H' ∧ H' D = some (.lst (nvs ((metN n [p, q]).take i)))) ⟨Ex.new hD, upd_same⟩ (fun _ _ _ hp => ex_l hp.1 (sq_of hz)) (fun i v H3 H4 hi hp hy => ?_) (fun H' hp => ?_)
    · obtain ⟨rfl, hv⟩ := hy
      obtain ⟨e3, h3⟩ := hp
      rw [hus] at hi
      have hk := keysN_at (p := p) (q := q) hi
      obtain ⟨j, hix, hle, hfi, hmin⟩ := firsts_at hk
      have hj : j < n := by omega
      obtain ⟨t, ht, _, ht2⟩ := hel i _ _ (nvs_get (itm_get (x := i + 1) (by omega) (by rw [hP.len]; omega))) (nvs_get (itm_get (x := i + 1) (by omega) (by rw [hQ.len]; omega)))
      rw [hv] at ht
      cases ht
      have hDp : ∀ {us : List V} {ds : List PyData}, DpAll K H2 us ds → DpAll K H4 us ds := fun h => dpAll_mono e3 h
      refine ⟨rfl, _, rfl, .inl ⟨rfl, us, ex_l e3 (sq_of hz)⟩, _, rfl, z, .ref t, .tuple [.int (itm p (i + 1) : Int), .int (itm q (i + 1) : Int)], pairsD p q n, _, _, rfl, rfl, .lst (ex_l e3 (sq_of hz)) (hDp hd), .tup (ex_t e3 (st_of ht2)) (.cons (.int _) (.cons (.int _) .nil)), hsh, rfl, pairsD_get hj, ?_, fun m z' hm hz' => ?_, _, 1, rfl, rfl, _, h3, ?_, e3.mut hD, ?_⟩
      · rw [keysN_at hj] at hix
        injection Option.some.inj hix with a1 a2
        injection a2 with a2
        rw [eqv_pair, a1, a2, decide_eq_true rfl, decide_eq_true rfl]
        rfl
      · have hmn : m < n := by omega
        rw [pairsD_get hmn] at hz'
        cases hz'
        rw [eqv_pair, ← Bool.not_eq_true, Bool.and_eq_true, decide_eq_true_iff, decide_eq_true_iff]
        rintro ⟨b1, b2⟩
        have : (keysN n [p, q])[m]? = some [itm p (i + 1), itm q (i + 1)] := by
          rw [keysN_at hmn, show itm p (m + 1) = itm p (i + 1) by omega, show itm q (m + 1) = itm q (i + 1) by omega]
        have := hmin m this
        omega
      · rw [nvs_len, List.length_take]
        have : 4097 < sizeLine := by decide
        omega
      · rw [upd_same, List.take_add_one]
        have : (metN n [p, q])[i]? = some (j + 1) := hfi
        rw [this]
        unfold nvs
        rw [List.map_append]
        rfl
    · obtain ⟨e3, h3⟩ := hp
      rw [hus, List.take_of_length_le (by rw [(metN_isP n [p, q]).len]; exact Nat.le_refl _)] at h3
      have e4 := e2.trans e3
      exact ⟨D, _, rfl, .inl ⟨sq_of h3, fun r nr => qq r _ (e4.trans (Ex.new nr)) (fresh_back e4 nr) upd_same⟩⟩
end
end Eyes

set_option Elab.async false
set_option linter.all false
set_option maxRecDepth 100000
set_option maxHeartbeats 4000000
namespace Eyes
open PySem PySem.Spec PyProof.Rows L2 Evl TL
def spGroup (K : PySem.W.Frag) : Sp := fun vs H Q _ => ∃ (n x : Nat) (a : Addr) (p : List Nat), vs = [.ref a, .int x] ∧ SqT K H a (nvs p) ∧ IsP n p ∧ n ≤ 4096 ∧ 1 ≤ x ∧ x ≤ n ∧ ∀ r H', Ex H H' → H r = none → H' r = some (.tup (nvs (cellN p n (itm p x)))) → Q (.ref r) H'
section
variable {P : Program} {w : World} {K : PySem.W.Frag} {mg : Str → Option Value} {base : Heap} {AA : Adr}
end
end Eyes

set_option Elab.async false
set_option linter.all false
set_option maxRecDepth 100000
set_option maxHeartbeats 4000000
/-! A drawn parting (split off V6). -/
namespace Eyes
open PySem PySem.Spec PyProof.Rows L2 Evl TL
def spRows : Sp := fun vs H Q _ => ∃ (b : Addr) (n : Nat) (G : Hp), vs = [.ref b, .int n] ∧ At b G H ∧ 1 ≤ n ∧ n ≤ 60 ∧ ∀ (p : List Nat) r G' H', IsP n p → Ex G G' → G' r = some (.tup (nvs p)) → At b G' H' → Q (.ref r) H'
section
variable {P : Program} {w : World} {K : PySem.W.Frag} {mg : Str → Option Value} {base : Heap} {AA : Adr}
theorem ok_law_rows (T : Txt K mg AA) : Pr P w K mg base "_law_rows" s_law_rows p_law_rows 3 spRows := by
  refine pr_mk T.f_law_rows sc_law_rows (fun vs H Q E h => ?_) (fun f cdv A outer s H vs Q E hr h => ?_)
  · obtain ⟨b, n, G, rfl, _⟩ := h
    rfl
  · obtain ⟨b, n, G, rfl, hA, h1, hn, q⟩ := h
    refine ⟨_, (pss_cons (ps_set (i := 2) sc_law_rows.nd rfl (.inl rfl) (pe_lst pa_nil))
      (pss_cons (ps_for PassesOwn.never rfl (pi_range1 (by rfl) T.n_range (pa_cons (pv 1) pa_nil)) (pg_name (i := 3) sc_law_rows.nd rfl (.inl rfl))
      (pss_cons (ps_set (i := 4) sc_law_rows.nd rfl (.inl rfl) (pe_op op_cat (pe_sortedSetI (K := K) rfl rfl (pv 2) (by rfl) T.n_sorted (by rfl) T.n_set) (pe_lst (pa_cons (pe_op op_add (pv 3) pe_int) pa_nil))))
      (pss_one (ps_expr (pe_bm PySem.F.plainAttrs_list PySem.F.slot_list_append PySem.F.type_list_append mt_append (pv 2) (pa_cons (pcall (ok_law_of T) hr (pa_cons (pv 0) (pa_cons (pe_ifExp (pt_truth (pcall (ok_law_draw T) hr (pa_cons (pv 0) (pa_cons pe_int pa_nil))) (by intro _; rfl)) (pe_op op_cat (pv 4) (pe_lst (pa_cons (pe_op op_add (pv 3) pe_int) pa_nil))) (pv 4)) pa_nil))) pa_nil))))))
      (pss_one (ps_ret (pe_callTy call_tuple_of (by rfl) T.n_tuple PyProof.Rows.boot_tuple (pa_cons (pv 2) pa_nil)))))), ?_⟩
    refine ⟨by show 0 ≤ sizeLine; decide, fun F nF => ?_⟩
    have hA1 := hA.new (o := .lst []) nF
    have nFG := hA.nh nF
    refine ⟨_, rfl, _, rfl, by omega, by omega, ?_⟩
    rw [show ((n : Nat) : Int).toNat = n by omega]
    refine for_it walk_range (fun i σ H' => ∃ (y3 y4 : Option V) (p : List Nat) (G1 : Hp), σ = [some (.ref b), some (.int n), some (.ref F), y3, y4] ∧ At b G1 H' ∧ Ex G G1 ∧ G1 F = some (.lst (nvs p)) ∧ IsP i p) ⟨none, none, [], _, rfl, hA1, Ex.new nFG, upd_same, isP_nil⟩ (fun _ _ _ _ _ => trivial) (fun i v σ H3 H4 hi hp hy => ?_) (fun σ H' hp => ?_)
    · obtain ⟨y3, y4, p, G1, rfl, hA2, e1, hF, hP⟩ := hp
      obtain ⟨rfl, rfl⟩ := hy
      have hm : nvs p = (p.map (fun x : Nat => (x : Int))).map V.int := by
        unfold nvs
        rw [List.map_map]
        rfl
      have hF2 := hF
      rw [hm] at hF2
      refine ⟨_, rfl, F, _, rfl, sq_of (hA2.ex _ _ hF2), by rw [List.length_map, hP.len]; omega, fun ys S so mm ll nS => ?_⟩
      rw [List.length_map, hP.len] at ll
      have a3 := hA2.new (o := .lst (ys.map V.int)) nS
      have x3 := Ex.new (o := .lst (ys.map V.int)) (hA2.nh nS)
      refine ⟨_, rfl, _, 1, rfl, rfl, by show 1 ≤ sizeLine; decide, fun pk npk => ?_⟩
      have a4 := a3.new (o := .lst [.int (0 + (i : Int) + 1)]) npk
      have x4 := Ex.new (o := .lst [.int (0 + (i : Int) + 1)]) (a3.nh npk)
      refine ⟨S, pk, ys.map V.int, _, rfl, rfl, a4.ex _ _ (x4 _ _ upd_same), upd_same, sz_of (by rw [List.length_map]; show ys.length + 1 ≤ 100000; omega), fun pr npr => ?_⟩
      have a5 := a4.new (o := .lst (ys.map V.int ++ [.int (0 + (i : Int) + 1)])) npr
      have x5 := Ex.new (o := .lst (ys.map V.int ++ [.int (0 + (i : Int) + 1)])) (a4.nh npr)
      have x35 := x3.trans (x4.trans x5)
      have fin : ∀ (v : V) (G2 H5 : Hp), (v ∈ ys.map V.int ++ [.int (0 + (i : Int) + 1)] ∨ v = .int (0 + (i : Int) + 1)) → Ex G1 G2 → At b G2 H5 → ∃ (xs : List V), H5 F = some (.lst xs) ∧ xs.length + 1 ≤ sizeLine ∧ ∃ (y3 y4 : Option V) (p : List Nat) (G1 : Hp), [some (V.ref b), some (V.int ↑n), some (V.ref F), some (V.int (0 + (i : Int))), some (V.ref pr)] = [some (.ref b), some (.int n), some (.ref F), y3, y4] ∧ At b G1 (upd H5 F (.lst (xs ++ [v]))) ∧ Ex G G1 ∧ G1 F = some (.lst (nvs p)) ∧ IsP (i + 1) p := fun v G2 H5 hv e2 hA5 => by
        obtain ⟨m, rfl, hm⟩ : ∃ m : Nat, v = .int (m : Int) ∧ (m = i + 1 ∨ m ∈ p) := by
          have hv : v ∈ ys.map V.int ∨ v = .int (0 + (i : Int) + 1) := by
            rcases hv with h | h
            · rcases List.mem_append.mp h with h | h
              · exact .inl h
              · exact .inr (List.mem_singleton.mp h)
            · exact .inr h
          rcases hv with h | h
          · obtain ⟨y, hy, rfl⟩ := List.mem_map.mp h
            obtain ⟨x, hx, rfl⟩ := List.mem_map.mp ((mm y).mp hy)
            exact ⟨x, rfl, .inr hx⟩
          · exact ⟨i + 1, by rw [h]; congr 1; omega, .inl rfl⟩
        have h5 : G2 F = some (.lst (nvs p)) := e2 _ _ hF
        refine ⟨nvs p, hA5.ex _ _ h5, sz_of (by rw [nvs_len, hP.len]; omega), _, _, p ++ [m], _, rfl, hA5.put' h5, (e1.trans e2).mut nFG, ?_, isP_snoc hP hm⟩
        rw [upd_same]
        unfold nvs
        rw [List.map_append]
        rfl
      refine ⟨_, rfl, .inl ⟨rfl, nvs p, sq_of (a5.ex _ _ (x35 _ _ hF))⟩, _, rfl, _, rfl, b, 2, _, rfl, a5, by omega, by omega, fun d H5 d0 d1 hA5 => ⟨d != 0, rfl, ite2 (fun hd => ?_) (fun hd => ?_)⟩⟩
      · refine ⟨_, rfl, _, rfl, _, 1, rfl, rfl, by show 1 ≤ sizeLine; decide, fun pk2 npk2 => ?_⟩
        have a6 := hA5.new (o := .lst [.int (0 + (i : Int) + 1)]) npk2
        have x6 := Ex.new (o := .lst [.int (0 + (i : Int) + 1)]) (hA5.nh npk2)
        refine ⟨pr, pk2, _, _, rfl, rfl, a6.ex _ _ (x6 _ _ upd_same), upd_same, sz_of (by rw [List.length_append, List.length_map]; show (ys.length + 1) + 1 ≤ 100000; omega), fun pr2 npr2 => ?_⟩
        have a7 := a6.new (o := .lst ((ys.map V.int ++ [.int (0 + (i : Int) + 1)]) ++ [.int (0 + (i : Int) + 1)])) npr2
        have x7 := Ex.new (o := .lst ((ys.map V.int ++ [.int (0 + (i : Int) + 1)]) ++ [.int (0 + (i : Int) + 1)])) (a6.nh npr2)
        refine ⟨b, .ref pr2, _, _, rfl, a7, .inl ⟨pr2, rfl, sq_of upd_same⟩, by simp, by rw [List.length_append, List.length_append, List.length_map]; show (ys.length + 1) + 1 < _; omega, fun v H6 hv hA6 => ?_⟩
        obtain ⟨xs, g1, g2, g3⟩ := fin v _ H6 (by
          rcases List.mem_append.mp hv with h | h
          · exact .inl h
          · exact .inr (List.mem_singleton.mp h)) (x35.trans (x6.trans x7)) hA6
        exact ⟨F, xs, v, rfl, rfl, g1, g2, g3⟩
      · refine ⟨_, rfl, b, .ref pr, _, _, rfl, hA5, .inl ⟨pr, rfl, sq_of upd_same⟩, by simp, by rw [List.length_append, List.length_map]; show ys.length + 1 < _; omega, fun v H6 hv hA6 => ?_⟩
        obtain ⟨xs, g1, g2, g3⟩ := fin v _ H6 (.inl hv) x35 hA6
        exact ⟨F, xs, v, rfl, rfl, g1, g2, g3⟩
    · obtain ⟨y3, y4, p, G1, rfl, hA2, e1, hF, hP⟩ := hp
      refine ⟨_, rfl, F, _, rfl, .inl ⟨sq_of (hA2.ex _ _ hF), fun r nr => ?_⟩⟩
      exact q p r _ _ hP (e1.trans (Ex.new (hA2.nh nr))) upd_same (hA2.new nr)
end
end Eyes

set_option Elab.async false
set_option linter.all false
set_option maxRecDepth 100000
set_option maxHeartbeats 4000000
namespace Eyes
open PySem PySem.Spec PyProof.Rows L2 Evl TL
def spCouples : Sp := fun vs H Q _ => ∃ (b : Addr) (n c : Nat) (G : Hp), vs = [.ref b, .int n, .int c] ∧ At b G H ∧ 1 ≤ n ∧ n ≤ 2400 ∧ c ≤ 60 ∧ ∀ (l : List (Nat × Nat)) r ws G' H', inN n l → l.length = c → Ex G G' → G r = none → G' r = some (.lst ws) → Prh G' ws l → At b G' H' → Q (.ref r) H'
section
variable {P : Program} {w : World} {K : PySem.W.Frag} {mg : Str → Option Value} {base : Heap} {AA : Adr}
end
end Eyes

set_option Elab.async false
set_option linter.all false
set_option maxRecDepth 100000
set_option maxHeartbeats 4000000
namespace Eyes
open PySem PySem.Spec PyProof.Rows L2 Evl TL
section
variable {P : Program} {w : World} {K : PySem.W.Frag} {mg : Str → Option Value} {base : Heap} {AA : Adr}
end
end Eyes

set_option Elab.async false
set_option linter.all false
set_option maxRecDepth 100000
set_option maxHeartbeats 4000000
namespace Eyes
open PySem PySem.Spec PyProof.Rows L2 Evl TL
def reprC (c : Ci) : Str := Str.empty ++ Str.ofString "Circle(" ++ c.str ++ Str.ofString ")"
def EqK (K : PySem.W.Frag) (C : Addr) (c : Ci) (H : Hp) (y : V) (b : Bool) : Prop :=
  (∃ d, CiAt C H y d ∧ b = decide (c.str = d.str)) ∨ (∃ z, y = .str z ∧ b = false) ∨ ∃ a zs, y = .ref a ∧ H a = some (.lst zs) ∧ b = false
def spEqC (K : PySem.W.Frag) (C : Addr) : Sp := fun vs H Q _ => ∃ (x y : V) (c : Ci) (b : Bool), vs = [x, y] ∧ CiAt C H x c ∧ EqK K C c H y b ∧ ∀ H', Ex H H' → Q (.bl b) H'
def spEyesC (C : Addr) (n : Nat) : Sp := fun vs H Q _ => ∃ (v : V) (c : Ci), vs = [v] ∧ CiAt C H v c ∧ c.depth < n ∧ c.fine ∧ ∀ (ys : List Str) (l : Addr) (H' : Hp), IsEyes c ys → H l = none → Ex H H' → H' l = some (.lst (ys.map V.str)) → Q (.ref l) H'
section
variable {P : Program} {w : World} {K : PySem.W.Frag} {mg : Str → Option Value} {base : Heap} {AA : Adr}
end
end Eyes

set_option Elab.async false
set_option linter.all false
set_option maxRecDepth 100000
set_option maxHeartbeats 4000000
namespace Eyes
open PySem PySem.Spec PyProof.Rows L2 Evl TL
def Plain (x : V) : Prop := x = .non ∨ (∃ b, x = .bl b) ∨ (∃ i, x = .int i) ∨ ∃ z, x = .str z
inductive Sm (C : Addr) (H : Hp) : Nat → V → V → Prop
  | sc {n : Nat} {x : V} : Plain x → Sm C H (n + 1) x x
  | ci {n : Nat} {x y : V} {c d : Ci} : CiAt C H x c → CiAt C H y d → c.str = d.str → Sm C H (n + 1) x y
  | lst {n : Nat} {a b : Addr} {xs ys : List V} : H a = some (.lst xs) → H b = some (.lst ys) → xs.length = ys.length → xs.length ≤ 90000 → (∀ (i : Nat) (u v : V), xs[i]? = some u → ys[i]? = some v → Sm C H n u v) → Sm C H (n + 1) (.ref a) (.ref b)
  | tup {n : Nat} {a b : Addr} {xs ys : List V} : H a = some (.tup xs) → H b = some (.tup ys) → xs.length = ys.length → xs.length ≤ 90000 → (∀ (i : Nat) (u v : V), xs[i]? = some u → ys[i]? = some v → Sm C H n u v) → Sm C H (n + 1) (.ref a) (.ref b)
theorem Sm.mono {C : Addr} {H H' : Hp} (e : Ex H H') {n : Nat} {x y : V} (h : Sm C H n x y) : Sm C H' n x y := by
  induction h with
  | sc h => exact .sc h
  | ci h1 h2 h3 => exact .ci (h1.mono e) (h2.mono e) h3
  | lst h1 h2 h3 h4 _ ih => exact .lst (e _ _ h1) (e _ _ h2) h3 h4 ih
  | tup h1 h2 h3 h4 _ ih => exact .tup (e _ _ h1) (e _ _ h2) h3 h4 ih
structure Hd (K : PySem.W.Frag) (C : Addr) (H : Hp) (n : Nat) (x y : V) (t : Value) (kl kt kb ki ks sq : Bool) : Prop where
  tx : TyX K H x t
  ty : TyX K H y t
  l : PySem.W.kitOne K t (.type "list") = some kl
  tp : PySem.W.kitOne K t (.type "tuple") = some kt
  b : PySem.W.kitOne K t (.type "bool") = some kb
  i : PySem.W.kitOne K t (.type "int") = some ki
  s : PySem.W.kitOne K t (.type "str") = some ks
  q : PySem.W.kitAny K t [.type "list", .type "tuple"] = some sq
  yes : sq = true → ∃ (p1 p2 : Addr) (xs ys : List V), x = .ref p1 ∧ y = .ref p2 ∧ xs.length = ys.length ∧ xs.length ≤ 90000 ∧ (∀ (i : Nat) (u v : V), xs[i]? = some u → ys[i]? = some v → Sm C H n u v) ∧ ((H p1 = some (.lst xs) ∧ H p2 = some (.lst ys)) ∨ (H p1 = some (.tup xs) ∧ H p2 = some (.tup ys)))
  no : sq = false → PySem.W.kitOne K t (.type "dict") = some false ∧ ((x = y ∧ scal x y = true) ∨ ∃ c d, CiAt C H x c ∧ CiAt C H y d ∧ c.str = d.str)
theorem Sm.hd {K : PySem.W.Frag} {C : Addr} {H : Hp} {n : Nat} {x y : V} (cc : Cls K C) (cy : ClsY K C) (h : Sm C H (n + 1) x y) : ∃ t kl kt kb ki ks sq, Hd K C H n x y t kl kt kb ki ks sq := by
  have dat : ∀ (d : PyData), Rep H x d → Rep H y d → (seqD d = true → ∃ (p1 p2 : Addr) (xs ys : List V), x = .ref p1 ∧ y = .ref p2 ∧ xs.length = ys.length ∧ xs.length ≤ 90000 ∧ (∀ (i : Nat) (u v : V), xs[i]? = some u → ys[i]? = some v → Sm C H n u v) ∧ ((H p1 = some (.lst xs) ∧ H p2 = some (.lst ys)) ∨ (H p1 = some (.tup xs) ∧ H p2 = some (.tup ys)))) → (seqD d = false → PySem.W.kitOne K (.type (tyD d)) (.type "dict") = some false ∧ x = y ∧ scal x y = true) → ∃ t kl kt kb ki ks sq, Hd K C H n x y t kl kt kb ki ks sq := fun d hx hy g1 g2 => by
    obtain ⟨kl, hkl⟩ := kit_list K d
    obtain ⟨kt, hkt⟩ := kit_tuple K d
    obtain ⟨kb, hkb⟩ := kit_bool K d
    obtain ⟨ki, hki⟩ := kit_int K d
    obtain ⟨ks, hks⟩ := kit_str K d
    exact ⟨_, kl, kt, kb, ki, ks, seqD d, hx.ty, hy.ty, hkl, hkt, hkb, hki, hks, kit_seq K d, g1, fun z => ⟨(g2 z).1, .inl (g2 z).2⟩⟩
  cases h with
  | sc h =>
    rcases h with rfl | ⟨b, rfl⟩ | ⟨i, rfl⟩ | ⟨z, rfl⟩
    · exact dat .none .non .non (fun z => nomatch z) fun _ => ⟨kit_ty (a := "NoneType") (by decide +kernel), rfl, rfl⟩
    · exact dat (.bool b) (.bl b) (.bl b) (fun z => nomatch z) fun _ => ⟨kit_ty (a := "bool") (by decide +kernel), rfl, rfl⟩
    · exact dat (.int i) (.int i) (.int i) (fun z => nomatch z) fun _ => ⟨kit_ty (a := "int") (by decide +kernel), rfl, rfl⟩
    · exact dat (.str z) (.str z) (.str z) (fun z => nomatch z) fun _ => ⟨kit_ty (a := "str") (by decide +kernel), rfl, rfl⟩
  | ci h1 h2 h3 =>
    obtain ⟨p, dx, l, vs, rfl, hp, _, _⟩ := h1.at_
    obtain ⟨p2, dx2, l2, vs2, rfl, hp2, _, _⟩ := h2.at_
    refine ⟨_, false, false, false, false, false, false, .base (.ins hp cc cy.ty1 cy.ty2 cy.ty3 cy.ty4), .base (.ins hp2 cc cy.ty1 cy.ty2 cy.ty3 cy.ty4), cy.k_list, cy.k_tuple, cy.k_bool, cy.k_int, cy.k_str, ?_, fun z => (nomatch z), fun _ => ⟨cy.k_dict, .inr ⟨_, _, h1, h2, h3⟩⟩⟩
    exact kitAny_cons (b := false) cy.k_list (fun _ => kitAny_cons (b := false) cy.k_tuple (fun _ => kitAny_nil) (fun z => nomatch z)) (fun z => nomatch z)
  | @lst _ a b xs ys h1 h2 h3 h4 h5 =>
    obtain ⟨kl, hkl⟩ := kit_list K (.list [])
    obtain ⟨kt, hkt⟩ := kit_tuple K (.list [])
    obtain ⟨kb, hkb⟩ := kit_bool K (.list [])
    obtain ⟨ki, hki⟩ := kit_int K (.list [])
    obtain ⟨ks, hks⟩ := kit_str K (.list [])
    exact ⟨_, kl, kt, kb, ki, ks, true, .base (.lst h1), .base (.lst h2), hkl, hkt, hkb, hki, hks, kit_seq K (.list []), fun _ => ⟨a, b, xs, ys, rfl, rfl, h3, h4, h5, .inl ⟨h1, h2⟩⟩, fun z => (nomatch z)⟩
  | @tup _ a b xs ys h1 h2 h3 h4 h5 =>
    obtain ⟨kl, hkl⟩ := kit_list K (.tuple [])
    obtain ⟨kt, hkt⟩ := kit_tuple K (.tuple [])
    obtain ⟨kb, hkb⟩ := kit_bool K (.tuple [])
    obtain ⟨ki, hki⟩ := kit_int K (.tuple [])
    obtain ⟨ks, hks⟩ := kit_str K (.tuple [])
    exact ⟨_, kl, kt, kb, ki, ks, true, .base (.tup h1), .base (.tup h2), hkl, hkt, hkb, hki, hks, kit_seq K (.tuple []), fun _ => ⟨a, b, xs, ys, rfl, rfl, h3, h4, h5, .inr ⟨h1, h2⟩⟩, fun z => (nomatch z)⟩
theorem Sm.non {C : Addr} {H : Hp} {n : Nat} {x y : V} (h : Sm C H n x y) : (x = .non ∧ y = .non) ∨ (decide (x = V.non) = false ∧ decide (y = V.non) = false) := by
  cases h with
  | sc h =>
    rcases h with rfl | ⟨b, rfl⟩ | ⟨i, rfl⟩ | ⟨z, rfl⟩
    · exact .inl ⟨rfl, rfl⟩
    · exact .inr ⟨rfl, rfl⟩
    · exact .inr ⟨rfl, rfl⟩
    · exact .inr ⟨decide_eq_false nofun, decide_eq_false nofun⟩
  | ci h1 h2 h3 =>
    obtain ⟨p, dx, l, vs, rfl, hp, _, _⟩ := h1.at_
    obtain ⟨p2, dx2, l2, vs2, rfl, hp2, _, _⟩ := h2.at_
    exact .inr ⟨rfl, rfl⟩
  | lst => exact .inr ⟨rfl, rfl⟩
  | tup => exact .inr ⟨rfl, rfl⟩
def spSm (C : Addr) (n : Nat) : Sp := fun vs H Q _ => ∃ (x y : V), vs = [x, y] ∧ Sm C H n x y ∧ ∀ H', Ex H H' → Q (.bl true) H'
section
variable {P : Program} {w : World} {K : PySem.W.Frag} {mg : Str → Option Value} {base : Heap} {AA : Adr}
end
end Eyes

set_option Elab.async false
set_option linter.all false
set_option maxRecDepth 100000
set_option maxHeartbeats 4000000
namespace Eyes
open PySem PySem.Spec PyProof.Rows L2 Evl TL
def Row (H : Hp) (n : Nat) (v : V) (p : List Nat) : Prop := ∃ a, v = .ref a ∧ H a = some (.tup (nvs p)) ∧ IsP n p
theorem Row.mono {H H' : Hp} {n : Nat} {v : V} {p : List Nat} (h : Row H n v p) (e : Ex H H') : Row H' n v p := by
  obtain ⟨a, h1, h2, h3⟩ := h
  exact ⟨a, h1, e _ _ h2, h3⟩
inductive Sms (C : Addr) (H : Hp) (n : Nat) : List V → List V → Prop
  | nil : Sms C H n [] []
  | cons {x y : V} {xs ys : List V} : Sm C H n x y → Sms C H n xs ys → Sms C H n (x :: xs) (y :: ys)
theorem Sms.len {C : Addr} {H : Hp} {n : Nat} {xs ys : List V} (h : Sms C H n xs ys) : xs.length = ys.length := by
  induction h with
  | nil => rfl
  | cons _ _ ih =>
    rw [List.length_cons, List.length_cons, ih]
theorem Sms.get {C : Addr} {H : Hp} {n : Nat} {xs ys : List V} (h : Sms C H n xs ys) : ∀ (i : Nat) (u v : V), xs[i]? = some u → ys[i]? = some v → Sm C H n u v := by
  induction h with
  | nil =>
    intro i u v e1 _
    cases e1
  | cons h1 _ ih =>
    intro i u v e1 e2
    match i, e1, e2 with
    | 0, e1, e2 =>
      cases e1
      cases e2
      exact h1
    | i + 1, e1, e2 => exact ih i u v e1 e2
theorem Sms.lst {C : Addr} {H : Hp} {n : Nat} {a b : Addr} {xs ys : List V} (h : Sms C H n xs ys) (ha : H a = some (.lst xs)) (hb : H b = some (.lst ys)) (hl : xs.length ≤ 90000) : Sm C H (n + 1) (.ref a) (.ref b) := .lst ha hb h.len hl h.get
theorem Sms.tup {C : Addr} {H : Hp} {n : Nat} {a b : Addr} {xs ys : List V} (h : Sms C H n xs ys) (ha : H a = some (.tup xs)) (hb : H b = some (.tup ys)) (hl : xs.length ≤ 90000) : Sm C H (n + 1) (.ref a) (.ref b) := .tup ha hb h.len hl h.get
theorem Sm.bl {C : Addr} {H : Hp} {n : Nat} {b c : Bool} (e : b = c) : Sm C H (n + 1) (.bl b) (.bl c) := e ▸ .sc (.inr (.inl ⟨_, rfl⟩))
end Eyes

set_option Elab.async false
set_option linter.all false
set_option maxRecDepth 100000
set_option maxHeartbeats 4000000
namespace Eyes
open PySem PySem.Spec PyProof.Rows L2 Evl TL
theorem okV_nats {n : Nat} {p : List Nat} (h : IsP n p) (hn : n ≤ 4096) : okV (.tuple (ndats p)) := by
  have d : PyData.depthAll (ndats p) ≤ 0 := depthAll_of fun d hd => by
    obtain ⟨x, _, rfl⟩ := List.mem_map.mp hd
    exact Nat.le_refl _
  have wd : widAll (ndats p) = 0 := by
    unfold ndats
    induction p with
    | nil => rfl
    | cons x p ih =>
      clear h d
      have : ∀ l : List Nat, widAll (l.map fun x : Nat => PyData.int (x : Int)) = 0 := fun l => by
        induction l with
        | nil => rfl
        | cons y l ih =>
          show max 0 (widAll (l.map fun x : Nat => PyData.int (x : Int))) = 0
          rw [ih]
          rfl
      exact this _
  have ll : (ndats p).length = n := by
    unfold ndats
    rw [List.length_map, h.len]
  refine ⟨by simp only [PyData.depth]; omega, by simp only [wid]; omega, layAll_of fun d hd => ?_⟩
  obtain ⟨x, _, rfl⟩ := List.mem_map.mp hd
  rfl
def spLattice : Sp := fun vs H Q _ => ∃ (n : Nat) (a b c : Addr) (p q r : List Nat), vs = [.ref a, .ref b, .ref c] ∧ H a = some (.tup (nvs p)) ∧ H b = some (.tup (nvs q)) ∧ H c = some (.tup (nvs r)) ∧ IsP n p ∧ IsP n q ∧ IsP n r ∧ 1 ≤ n ∧ n ≤ 4096 ∧ ∀ H', Ex H H' → Q (.bl true) H'
section
variable {P : Program} {w : World} {K : PySem.W.Frag} {mg : Str → Option Value} {base : Heap} {AA : Adr}
end
end Eyes

set_option Elab.async false
set_option linter.all false
set_option maxRecDepth 100000
set_option maxHeartbeats 4000000
namespace Eyes
open PySem PySem.Spec PyProof.Rows L2 Evl TL
theorem Rws.mono {H H' : Hp} {us : List V} {l : List (List Nat)} (h : Rws H us l) (e : Ex H H') : Rws H' us l := ⟨h.1, fun i u hu => by
  obtain ⟨t, c, h1, h2, h3⟩ := h.2 i u hu
  exact ⟨t, c, h1, h2, e _ _ h3⟩⟩
theorem Rws.snoc {H : Hp} {us : List V} {l : List (List Nat)} {t : Addr} {c : List Nat} (h : Rws H us l) (ht : H t = some (.tup (nvs c))) : Rws H (us ++ [.ref t]) (l ++ [c]) := ⟨by rw [List.length_append, List.length_append, h.1]; rfl, fun i u hu => by
  rcases Nat.lt_or_ge i us.length with z | z
  · rw [List.getElem?_append_left z] at hu
    obtain ⟨t2, c2, h1, h2, h3⟩ := h.2 i u hu
    exact ⟨t2, c2, h1, by rw [List.getElem?_append_left (by rw [← h.1]; exact z)]; exact h2, h3⟩
  · have hz := (List.getElem?_eq_some_iff.mp hu).1
    rw [List.length_append] at hz
    have hz : i < us.length + 1 := hz
    obtain rfl : i = us.length := by omega
    rw [List.getElem?_append_right (Nat.le_refl _), Nat.sub_self] at hu
    cases hu
    exact ⟨t, c, rfl, by rw [h.1, List.getElem?_append_right (Nat.le_refl _), Nat.sub_self]; rfl, ht⟩⟩
theorem Rws.put {H : Hp} {us : List V} {l : List (List Nat)} {a : Addr} {xs ys : List V} (h : Rws H us l) (ha : H a = some (.lst xs)) : Rws (upd H a (.lst ys)) us l := ⟨h.1, fun i u hu => by
  obtain ⟨t, c, h1, h2, h3⟩ := h.2 i u hu
  exact ⟨t, c, h1, h2, by rw [upd_ne fun z => by rw [z, ha] at h3; cases h3]; exact h3⟩⟩
def spLotsSo : Sp := fun vs H Q _ => ∃ (n : Nat) (a : Addr) (p : List Nat), vs = [.ref a, .int n] ∧ H a = some (.tup (nvs p)) ∧ IsP n p ∧ 1 ≤ n ∧ n ≤ 4096 ∧ ∀ H', Ex H H' → Q (.bl true) H'
section
variable {P : Program} {w : World} {K : PySem.W.Frag} {mg : Str → Option Value} {base : Heap} {AA : Adr}
end
end Eyes

set_option Elab.async false
set_option linter.all false
set_option maxRecDepth 100000
set_option maxHeartbeats 4000000
namespace Eyes
open PySem PySem.Spec PyProof.Rows L2 Evl TL
theorem small_nat (x : Nat) : (PyData.int (x : Int)).depth ≤ 3 ∧ wid (PyData.int (x : Int)) ≤ 4096 ∧ PyData.canLay0 (PyData.int (x : Int)) = true := ⟨Nat.zero_le _, Nat.zero_le _, rfl⟩
theorem small_ndats {p : List Nat} {d : PyData} (h : d ∈ ndats p) : d.depth ≤ 3 ∧ wid d ≤ 4096 ∧ PyData.canLay0 d = true := by
  obtain ⟨x, _, rfl⟩ := List.mem_map.mp h
  exact small_nat x
def small (d : PyData) : Prop := d.depth ≤ 3 ∧ wid d ≤ 4096 ∧ PyData.canLay0 d = true
def Sml (G : Hp) (xs : List V) : Prop := ∃ ds, Reps G xs ds ∧ ∀ d ∈ ds, small d
theorem Sml.mono {G G' : Hp} {xs : List V} (h : Sml G xs) (e : Ex G G') : Sml G' xs := by
  obtain ⟨ds, h1, h2⟩ := h
  exact ⟨ds, Reps.mono e h1, h2⟩
theorem Sml.one {G : Hp} {v : V} {d : PyData} (h : Rep G v d) (hs : small d) : Sml G [v] := ⟨[d], .cons h .nil, fun e he => by
  rw [List.mem_singleton.mp he]
  exact hs⟩
theorem Sml.row {G : Hp} {p : List Nat} : Sml G (nvs p) := ⟨ndats p, reps_ndats p, fun d hd => small_ndats hd⟩
theorem cut_nvs {p : List Nat} {lo hi : Option Int} : ∃ q, cutV (nvs p) lo hi = nvs q ∧ q.length ≤ p.length := by
  refine ⟨(p.drop (HT.sIx (nvs p).length 0 lo)).take (HT.sIx (nvs p).length (nvs p).length hi - HT.sIx (nvs p).length 0 lo), ?_, ?_⟩
  · unfold cutV
    unfold nvs
    rw [List.map_take, List.map_drop]
  · rw [List.length_take, List.length_drop]
    omega
theorem Sml.cut {G : Hp} {p : List Nat} {lo hi : Option Int} : Sml G (cutV (nvs p) lo hi) := by
  obtain ⟨q, h, _⟩ := cut_nvs (p := p) (lo := lo) (hi := hi)
  rw [h]
  exact .row
def spOddD : Sp := fun vs H Q _ => ∃ (b lm : Addr) (G : Hp) (ms : List V), vs = [.ref b, .ref lm] ∧ At b G H ∧ G lm = some (.lst ms) ∧ ms.length ≤ 20 ∧ (∀ x ∈ ms, ∃ d, Rep G x d ∧ okV d) ∧ ∀ v d G' H', Ex G G' → At b G' H' → Rep G' v d → okV d → Q v H'
def spNear : Sp := fun vs H Q _ => ∃ (b a : Addr) (n : Nat) (p : List Nat) (G : Hp), vs = [.ref b, .ref a] ∧ At b G H ∧ G a = some (.tup (nvs p)) ∧ IsP n p ∧ 1 ≤ n ∧ n ≤ 60 ∧ ∀ v d G' H', Ex G G' → At b G' H' → Rep G' v d → okV d → Q v H'
section
variable {P : Program} {w : World} {K : PySem.W.Frag} {mg : Str → Option Value} {base : Heap} {AA : Adr}
theorem ok_law_odd (T : Txt K mg AA) : Pr P w K mg base "_law_odd" s_law_odd p_law_odd 3 spOddD := by
  refine pr_mk T.f_law_odd sc_law_odd (fun vs H Q E h => ?_) (fun f cdv A outer s H vs Q E hr h => ?_)
  · obtain ⟨b, lm, G, ms, rfl, _⟩ := h
    rfl
  · obtain ⟨b, lm, G, ms, rfl, hA, hm, h20, hms, q⟩ := h
    refine ⟨_, (pss_one (ps_ret (pcall (ok_law_of T) hr (pa_cons (pv 0) (pa_cons (pe_op op_cat (pe_lst (pa_cons pe_non (pa_cons pe_bl (pa_cons pe_bl (pa_cons pe_int (pa_cons (pe_un un_neg pe_int) (pa_cons pe_str (pa_cons pe_str (pa_cons pe_str (pa_cons (pe_lst pa_nil) (pa_cons (pe_tup pa_nil) (pa_cons (pe_lst (pa_cons pe_non pa_nil)) (pa_cons (pe_tup (pa_cons pe_str pa_nil)) (pa_cons (pe_tup (pa_cons pe_str (pa_cons pe_int (pa_cons pe_int pa_nil)))) (pa_cons pe_int (pa_cons pe_str (pa_cons (pe_lst (pa_cons pe_int pa_nil)) (pa_cons (pe_tup (pa_cons pe_int (pa_cons pe_int pa_nil))) pa_nil)))))))))))))))))) (pv 1)) pa_nil))))), ?_⟩
    refine ⟨_, rfl, 1, rfl, by show 0 ≤ sizeLine; decide, fun p1 n1 => ⟨by show 0 ≤ sizeLine; decide, fun p2 n2 => ⟨by show 1 ≤ sizeLine; decide, fun p3 n3 => ⟨by show 1 ≤ sizeLine; decide, fun p4 n4 => ⟨by show 3 ≤ sizeLine; decide, fun p5 n5 => ⟨by show 1 ≤ sizeLine; decide, fun p6 n6 => ⟨by show 2 ≤ sizeLine; decide, fun p7 n7 => ⟨by show 17 ≤ sizeLine; decide, fun p8 n8 => ?_⟩⟩⟩⟩⟩⟩⟩⟩
    have a1 := hA.new (o := .lst []) n1
    have x1 := Ex.new (o := .lst []) (hA.nh n1)
    have a2 := a1.new (o := .tup []) n2
    have x2 := Ex.new (o := .tup []) (a1.nh n2)
    have a3 := a2.new (o := .lst [.non]) n3
    have x3 := Ex.new (o := .lst [.non]) (a2.nh n3)
    have a4 := a3.new (o := .tup [.str "x"]) n4
    have x4 := Ex.new (o := .tup [.str "x"]) (a3.nh n4)
    have a5 := a4.new (o := .tup [.str "x", .int 1, .int 2]) n5
    have x5 := Ex.new (o := .tup [.str "x", .int 1, .int 2]) (a4.nh n5)
    have a6 := a5.new (o := .lst [.int 1]) n6
    have x6 := Ex.new (o := .lst [.int 1]) (a5.nh n6)
    have a7 := a6.new (o := .tup [.int 1, .int 2]) n7
    have x7 := Ex.new (o := .tup [.int 1, .int 2]) (a6.nh n7)
    have a8 := a7.new (o := .lst [.non, .bl true, .bl false, .int 7, .int (-1), .str "", .str "x", .str "A", .ref p1, .ref p2, .ref p3, .ref p4, .ref p5, .int 999999999, .str "x y", .ref p6, .ref p7]) n8
    have x8 := Ex.new (o := .lst [.non, .bl true, .bl false, .int 7, .int (-1), .str "", .str "x", .str "A", .ref p1, .ref p2, .ref p3, .ref p4, .ref p5, .int 999999999, .str "x y", .ref p6, .ref p7]) (a7.nh n8)
    have hm8 := a8.ex _ _ (x8 _ _ (x7 _ _ (x6 _ _ (x5 _ _ (x4 _ _ (x3 _ _ (x2 _ _ (x1 _ _ hm))))))))
    refine ⟨_, rfl, p8, lm, _, ms, rfl, rfl, upd_same, hm8, sz_of (by show 17 + ms.length ≤ 100000; omega), fun pr npr => ⟨b, .ref pr, _, _, rfl, a8.new npr, .inl ⟨pr, rfl, sq_of upd_same⟩, by rw [List.length_append]; show 0 < 17 + ms.length; omega, by rw [List.length_append]; show 17 + ms.length < 1073741824; omega, fun v H' hv hA' => ?_⟩⟩
    have x9 := Ex.new (o := HO.lst ([.non, .bl true, .bl false, .int 7, .int (-1), .str "", .str "x", .str "A", .ref p1, .ref p2, .ref p3, .ref p4, .ref p5, .int 999999999, .str "x y", .ref p6, .ref p7] ++ ms)) (a8.nh npr)
    have y8 := x8.trans x9
    have y7 := x7.trans y8
    have y6 := x6.trans y7
    have y5 := x5.trans y6
    have y4 := x4.trans y5
    have y3 := x3.trans y4
    have y2 := x2.trans y3
    have y1 := x1.trans y2
    refine (fun main : ∃ d, Rep _ v d ∧ okV d => by
      obtain ⟨d, hd, ho⟩ := main
      exact q v d _ H' y1 hA' hd ho) ?_
    rcases List.mem_append.mp hv with hv | hv
    · simp only [List.mem_cons, List.not_mem_nil, or_false] at hv
      rcases hv with rfl | rfl | rfl | rfl | rfl | rfl | rfl | rfl | rfl | rfl | rfl | rfl | rfl | rfl | rfl | rfl | rfl
      · exact ⟨_, .non, by decide +kernel, by decide +kernel, by decide +kernel⟩
      · exact ⟨_, .bl true, by decide +kernel, by decide +kernel, by decide +kernel⟩
      · exact ⟨_, .bl false, by decide +kernel, by decide +kernel, by decide +kernel⟩
      · exact ⟨_, .int 7, by decide +kernel, by decide +kernel, by decide +kernel⟩
      · exact ⟨_, .int (-1), by decide +kernel, by decide +kernel, by decide +kernel⟩
      · exact ⟨_, .str _, by decide +kernel, by decide +kernel, by decide +kernel⟩
      · exact ⟨_, .str _, by decide +kernel, by decide +kernel, by decide +kernel⟩
      · exact ⟨_, .str _, by decide +kernel, by decide +kernel, by decide +kernel⟩
      · exact ⟨_, .lst (y2 _ _ upd_same) .nil, by decide +kernel, by decide +kernel, by decide +kernel⟩
      · exact ⟨_, .tup (y3 _ _ upd_same) .nil, by decide +kernel, by decide +kernel, by decide +kernel⟩
      · exact ⟨_, .lst (y4 _ _ upd_same) (.cons .non .nil), by decide +kernel, by decide +kernel, by decide +kernel⟩
      · exact ⟨_, .tup (y5 _ _ upd_same) (.cons (.str _) .nil), by decide +kernel, by decide +kernel, by decide +kernel⟩
      · exact ⟨_, .tup (y6 _ _ upd_same) (.cons (.str _) (.cons (.int _) (.cons (.int _) .nil))), by decide +kernel, by decide +kernel, by decide +kernel⟩
      · exact ⟨_, .int _, by decide +kernel, by decide +kernel, by decide +kernel⟩
      · exact ⟨_, .str _, by decide +kernel, by decide +kernel, by decide +kernel⟩
      · exact ⟨_, .lst (y7 _ _ upd_same) (.cons (.int _) .nil), by decide +kernel, by decide +kernel, by decide +kernel⟩
      · exact ⟨_, .tup (y8 _ _ upd_same) (.cons (.int _) (.cons (.int _) .nil)), by decide +kernel, by decide +kernel, by decide +kernel⟩
    · obtain ⟨d, hd, ho⟩ := hms v hv
      exact ⟨d, hd.mono y1, ho⟩
end
end Eyes

set_option Elab.async false
set_option linter.all false
set_option maxRecDepth 100000
set_option maxHeartbeats 4000000
/-! All partings as data: what is decided of them. -/
namespace Eyes
open PySem PySem.Spec PyProof.Rows L2
def tupD (r : List Nat) : PyData := .tuple (ndats r)
def rowsD (n : Nat) : PyData := .list ((rowsN n).map tupD)
theorem rowsD_shape : ∀ n, n ≤ 6 → SeqAt.shaped (rowsD n) = true ∧ (rowsD n).depth < 12 ∧ wid (rowsD n) ≤ 90000 ∧ PyData.eqv (rowsD n) (rowsD n) = true := by decide +kernel
theorem row_shape : ∀ n, n ≤ 6 → ∀ r ∈ rowsN n, SeqAt.shaped (tupD r) = true ∧ (lotsN r n).length = (asc n r).length := by decide +kernel
theorem rows_code : ∀ n, n ≤ 6 → (rowsN n).Pairwise (fun a b => TS.code 7 (a.map fun x : Nat => (x : Int)) < TS.code 7 (b.map fun x : Nat => (x : Int))) := by decide +kernel
def cntB (n : Nat) : Bool := (rowsN n).all fun p => ((rowsN n).map tupD).countP (fun z => PyData.eqv z (tupD p)) == 1
theorem cnt_all : ∀ n, n ≤ 6 → cntB n = true := by decide +kernel
theorem cnt_one {n : Nat} {p : List Nat} (h6 : n ≤ 6) (hp : p ∈ rowsN n) : ((rowsN n).map tupD).countP (fun z => PyData.eqv z (tupD p)) = 1 := by
  have := List.all_eq_true.mp (cnt_all n h6) p hp
  exact beq_iff_eq.mp this
theorem any_one {n : Nat} {p : List Nat} (h6 : n ≤ 6) (hp : p ∈ rowsN n) : (((rowsN n).map tupD).any fun z => PyData.eqv z (tupD p)) = true := by
  have h := cnt_one h6 hp
  have h2 : 0 < ((rowsN n).map tupD).countP (fun z => PyData.eqv z (tupD p)) := by omega
  obtain ⟨z, hz, e⟩ := List.countP_pos_iff.mp h2
  exact List.any_eq_true.mpr ⟨z, hz, e⟩
theorem Rws.reps {H : Hp} {us : List V} {l : List (List Nat)} (h : Rws H us l) : Reps H us (l.map tupD) := by
  induction us generalizing l with
  | nil =>
    have := h.1
    cases l with
    | nil => exact .nil
    | cons => cases this
  | cons u us ih =>
    cases l with
    | nil => have := h.1; cases this
    | cons c l =>
      obtain ⟨t, c2, e1, e2, e3⟩ := h.2 0 u rfl
      cases e2
      subst e1
      exact .cons (.tup e3 (reps_ndats _)) (ih ⟨Nat.succ.inj h.1, fun i v hv => h.2 (i + 1) v hv⟩)
def intV : V → Int
  | .int i => i
  | _ => 0
def tupV : Option HO → List Int
  | some (.tup xs) => xs.map intV
  | _ => []
def nums (H : Hp) : V → List Int
  | .ref t => tupV (H t)
  | _ => []
theorem nums_at {H : Hp} {t : Addr} {c : List Nat} (h : H t = some (.tup (nvs c))) : nums H (.ref t) = c.map fun x : Nat => (x : Int) := by
  show tupV (H t) = _
  rw [h]
  show (nvs c).map intV = _
  unfold nvs
  rw [List.map_map]
  rfl
theorem Rws.asc {H : Hp} {us : List V} {n : Nat} (h6 : n ≤ 6) (h : Rws H us (rowsN n)) :
    (∀ u ∈ us, ∃ t, u = V.ref t ∧ H t = some (.tup ((nums H u).map V.int)) ∧ (nums H u).length = n ∧ TS.Bd 7 (nums H u)) ∧ us.Pairwise (fun u v => TS.code 7 (nums H u) < TS.code 7 (nums H v)) := by
  have at_ : ∀ i u, us[i]? = some u → ∃ t c, u = .ref t ∧ (rowsN n)[i]? = some c ∧ H t = some (.tup (nvs c)) ∧ nums H u = c.map fun x : Nat => (x : Int) := fun i u hu => by
    obtain ⟨t, c, rfl, h2, h3⟩ := h.2 i u hu
    exact ⟨t, c, rfl, h2, h3, nums_at h3⟩
  refine ⟨fun u hu => ?_, ?_⟩
  · obtain ⟨i, hi⟩ := List.getElem?_of_mem hu
    obtain ⟨t, c, rfl, h2, h3, h4⟩ := at_ i u hi
    obtain ⟨l, a⟩ := rowsN_ok (List.mem_of_getElem? h2)
    rw [h4]
    refine ⟨t, rfl, ?_, by rw [List.length_map]; exact l, fun m hm => ?_⟩
    · rw [List.map_map]
      exact h3
    · obtain ⟨x, hx, rfl⟩ := List.mem_map.mp hm
      have := a x hx
      omega
  · rw [List.pairwise_iff_getElem]
    intro i j hi hj hij
    obtain ⟨_, c1, _, h1, _, e1⟩ := at_ i _ (List.getElem?_eq_getElem hi)
    obtain ⟨_, c2, _, h2, _, e2⟩ := at_ j _ (List.getElem?_eq_getElem hj)
    rw [e1, e2]
    obtain ⟨q1, r1⟩ := List.getElem?_eq_some_iff.mp h1
    obtain ⟨q2, r2⟩ := List.getElem?_eq_some_iff.mp h2
    have := (List.pairwise_iff_getElem.mp (rows_code n h6)) i j q1 q2 hij
    rw [r1, r2] at this
    exact this
end Eyes

set_option Elab.async false
set_option linter.all false
set_option maxRecDepth 100000
set_option maxHeartbeats 4000000
/-! The same thing twice, dicts too: data alone. -/
namespace Eyes
open PySem PySem.Spec PyProof.Rows L2 Evl TL
inductive Sd (H : Hp) : Nat → V → V → Prop
  | sc {n : Nat} {x : V} : Plain x → Sd H (n + 1) x x
  | lst {n : Nat} {a b : Addr} {xs ys : List V} : H a = some (.lst xs) → H b = some (.lst ys) → xs.length = ys.length → xs.length ≤ 90000 → (∀ (i : Nat) (u v : V), xs[i]? = some u → ys[i]? = some v → Sd H n u v) → Sd H (n + 1) (.ref a) (.ref b)
  | tup {n : Nat} {a b : Addr} {xs ys : List V} : H a = some (.tup xs) → H b = some (.tup ys) → xs.length = ys.length → xs.length ≤ 90000 → (∀ (i : Nat) (u v : V), xs[i]? = some u → ys[i]? = some v → Sd H n u v) → Sd H (n + 1) (.ref a) (.ref b)
  | dct {n : Nat} {a b : Addr} {kvs lvs : List (L2.Key × V)} : H a = some (.dK kvs) → H b = some (.dK lvs) → kvs.map (·.1) = lvs.map (·.1) → (lvs.map (·.1)).Nodup → lvs.length ≤ 1000 → (∀ (i : Nat) (k : L2.Key) (u v : V), kvs[i]? = some (k, u) → lvs[i]? = some (k, v) → Sd H (n + 2) u v) → Sd H (n + 3) (.ref a) (.ref b)
theorem Sd.mono {H H' : Hp} (e : Ex H H') {n : Nat} {x y : V} (h : Sd H n x y) : Sd H' n x y := by
  induction h with
  | sc h => exact .sc h
  | lst h1 h2 h3 h4 _ ih => exact .lst (e _ _ h1) (e _ _ h2) h3 h4 ih
  | tup h1 h2 h3 h4 _ ih => exact .tup (e _ _ h1) (e _ _ h2) h3 h4 ih
  | dct h1 h2 h3 h4 h5 _ ih => exact .dct (e _ _ h1) (e _ _ h2) h3 h4 h5 ih
structure Hq (K : PySem.W.Frag) (H : Hp) (n : Nat) (x y : V) (t : Value) (kl kt kb ki ks sq : Bool) : Prop where
  tx : TyX K H x t
  ty : TyX K H y t
  l : PySem.W.kitOne K t (.type "list") = some kl
  tp : PySem.W.kitOne K t (.type "tuple") = some kt
  b : PySem.W.kitOne K t (.type "bool") = some kb
  i : PySem.W.kitOne K t (.type "int") = some ki
  s : PySem.W.kitOne K t (.type "str") = some ks
  q : PySem.W.kitAny K t [.type "list", .type "tuple"] = some sq
  yes : sq = true → ∃ (p1 p2 : Addr) (xs ys : List V), x = .ref p1 ∧ y = .ref p2 ∧ xs.length = ys.length ∧ xs.length ≤ 90000 ∧ (∀ (i : Nat) (u v : V), xs[i]? = some u → ys[i]? = some v → Sd H n u v) ∧ ((H p1 = some (.lst xs) ∧ H p2 = some (.lst ys)) ∨ (H p1 = some (.tup xs) ∧ H p2 = some (.tup ys)))
  no : sq = false → PySem.W.kitOne K t (.type "dict") = some false ∧ x = y ∧ scal x y = true
theorem Sd.hd {K : PySem.W.Frag} {H : Hp} {n : Nat} {x y : V} (h : Sd H (n + 1) x y) : (∃ t kl kt kb ki ks sq, Hq K H n x y t kl kt kb ki ks sq) ∨ ∃ (m : Nat) (a b : Addr) (kvs lvs : List (L2.Key × V)), n = m + 2 ∧ x = .ref a ∧ y = .ref b ∧ H a = some (.dK kvs) ∧ H b = some (.dK lvs) ∧ kvs.map (·.1) = lvs.map (·.1) ∧ (lvs.map (·.1)).Nodup ∧ lvs.length ≤ 1000 ∧ ∀ (i : Nat) (k : L2.Key) (u v : V), kvs[i]? = some (k, u) → lvs[i]? = some (k, v) → Sd H (m + 2) u v := by
  have dat : ∀ (d : PyData), TyX K H x (.type (tyD d)) → TyX K H y (.type (tyD d)) → (seqD d = true → ∃ (p1 p2 : Addr) (xs ys : List V), x = .ref p1 ∧ y = .ref p2 ∧ xs.length = ys.length ∧ xs.length ≤ 90000 ∧ (∀ (i : Nat) (u v : V), xs[i]? = some u → ys[i]? = some v → Sd H n u v) ∧ ((H p1 = some (.lst xs) ∧ H p2 = some (.lst ys)) ∨ (H p1 = some (.tup xs) ∧ H p2 = some (.tup ys)))) → (seqD d = false → PySem.W.kitOne K (.type (tyD d)) (.type "dict") = some false ∧ x = y ∧ scal x y = true) → ∃ t kl kt kb ki ks sq, Hq K H n x y t kl kt kb ki ks sq := fun d hx hy g1 g2 => by
    obtain ⟨kl, hkl⟩ := kit_list K d
    obtain ⟨kt, hkt⟩ := kit_tuple K d
    obtain ⟨kb, hkb⟩ := kit_bool K d
    obtain ⟨ki, hki⟩ := kit_int K d
    obtain ⟨ks, hks⟩ := kit_str K d
    exact ⟨_, kl, kt, kb, ki, ks, seqD d, hx, hy, hkl, hkt, hkb, hki, hks, kit_seq K d, g1, g2⟩
  cases h with
  | sc h =>
    refine .inl ?_
    rcases h with rfl | ⟨b, rfl⟩ | ⟨i, rfl⟩ | ⟨z, rfl⟩
    · exact dat .none Rep.non.ty Rep.non.ty (fun z => nomatch z) fun _ => ⟨kit_ty (a := "NoneType") (by decide +kernel), rfl, rfl⟩
    · exact dat (.bool b) (Rep.bl b).ty (Rep.bl b).ty (fun z => nomatch z) fun _ => ⟨kit_ty (a := "bool") (by decide +kernel), rfl, rfl⟩
    · exact dat (.int i) (Rep.int i).ty (Rep.int i).ty (fun z => nomatch z) fun _ => ⟨kit_ty (a := "int") (by decide +kernel), rfl, rfl⟩
    · exact dat (.str z) (Rep.str z).ty (Rep.str z).ty (fun z => nomatch z) fun _ => ⟨kit_ty (a := "str") (by decide +kernel), rfl, rfl⟩
  | @lst _ a b xs ys h1 h2 h3 h4 h5 =>
    exact .inl (dat (.list []) (.base (.lst h1)) (.base (.lst h2)) (fun _ => ⟨a, b, xs, ys, rfl, rfl, h3, h4, h5, .inl ⟨h1, h2⟩⟩) fun z => nomatch z)
  | @tup _ a b xs ys h1 h2 h3 h4 h5 =>
    exact .inl (dat (.tuple []) (.base (.tup h1)) (.base (.tup h2)) (fun _ => ⟨a, b, xs, ys, rfl, rfl, h3, h4, h5, .inr ⟨h1, h2⟩⟩) fun z => nomatch z)
  | @dct m a b kvs lvs h1 h2 h3 h4 h5 h6 => exact .inr ⟨m, a, b, kvs, lvs, rfl, rfl, rfl, h1, h2, h3, h4, h5, h6⟩
theorem Sd.non {H : Hp} {n : Nat} {x y : V} (h : Sd H n x y) : (x = .non ∧ y = .non) ∨ (decide (x = V.non) = false ∧ decide (y = V.non) = false) := by
  cases h with
  | sc h =>
    rcases h with rfl | ⟨b, rfl⟩ | ⟨i, rfl⟩ | ⟨z, rfl⟩
    · exact .inl ⟨rfl, rfl⟩
    · exact .inr ⟨rfl, rfl⟩
    · exact .inr ⟨rfl, rfl⟩
    · exact .inr ⟨decide_eq_false nofun, decide_eq_false nofun⟩
  | lst => exact .inr ⟨rfl, rfl⟩
  | tup => exact .inr ⟨rfl, rfl⟩
  | dct => exact .inr ⟨rfl, rfl⟩
def spSd (n : Nat) : Sp := fun vs H Q _ => ∃ (x y : V), vs = [x, y] ∧ Sd H n x y ∧ ∀ H', Ex H H' → Q (.bl true) H'
section
variable {P : Program} {w : World} {K : PySem.W.Frag} {mg : Str → Option Value} {base : Heap} {AA : Adr}
end
end Eyes

set_option Elab.async false
set_option linter.all false
set_option maxRecDepth 100000
set_option maxHeartbeats 4000000
/-! zip(*rows) of any number of rows (one at least): making it, each turn, list(..). -/
namespace Eyes
open PySem PySem.Spec PyProof.Rows L2
section
variable {prog : Program} {w : World} {A : Around} {E : Value → Shared → Prop} {s : Shared}
def itOb (p : Addr) : Obj := { cls := .type "tuple_iterator", data := .fields #[.ref p, .int 0 0] }
def its0 : List Addr → Heap → Heap
  | [], h => h
  | p :: ps, h => its0 ps (h.push (itOb p))
end
def znU (ps : List Addr) (h : Heap) : Heap := (its0 ps h).push { cls := .type "tuple", data := .seq ((List.range' h.objs.size ps.length).map Value.ref).toArray }
def znO (ps : List Addr) (h : Heap) : Heap := (znU ps h).push { cls := .type "tuple", data := .seq (((List.range' h.objs.size ps.length).map Value.ref).map fun _ => Value.none).toArray }
def znZ (ps : List Addr) (h : Heap) : Heap := (znO ps h).push { cls := .type "zip", data := .fields #[.none, .bool false, .bool false, .ref (its0 ps h).objs.size, .ref (znU ps h).objs.size] }
abbrev IsTp (h : Heap) (a : Addr) (xs : List Value) : Prop := h.get? a = some { cls := .type "tuple", data := .seq xs.toArray }
end Eyes

set_option Elab.async false
set_option linter.all false
set_option maxRecDepth 100000
set_option maxHeartbeats 4000000
/-! A turn of a zip of n tuples. -/
namespace Eyes
open PySem PySem.Spec PyProof.Rows L2
abbrev ZRow := Addr × Addr × List Value
structure ZApt (z u o : Addr) (L : List ZRow) : Prop where
  uz : u ≠ z
  oz : o ≠ z
  uo : u ≠ o
  it : ∀ e ∈ L, e.1 ≠ z ∧ e.1 ≠ u ∧ e.1 ≠ o
  tp : ∀ e ∈ L, e.2.1 ≠ z ∧ e.2.1 ≠ o ∧ ∀ e' ∈ L, e.2.1 ≠ e'.1
  nd : (L.map (·.1)).Nodup
def zAt (m : Nat) (L : List ZRow) : List Value := L.map fun e => e.2.2.getD m .none
section
variable {prog : Program} {w : World} {A : Around} {E : Value → Shared → Prop} {s : Shared} {z u o : Addr} {L : List ZRow} {m : Nat}
structure ZMid (h0 : Heap) (ex : List Addr) (m : Nat) (done rest : List ZRow) (h : Heap) : Prop where
  size : h.objs.size = h0.objs.size
  dn : ∀ e ∈ done, h.IsTupleIter e.1 e.2.1 (m + 1)
  rs : ∀ e ∈ rest, h.IsTupleIter e.1 e.2.1 m
  keep : ∀ a ob, a ∉ ex → (∀ e ∈ done, a ≠ e.1) → h0.get? a = some ob → h.get? a = some ob
theorem ZMid.step {h0 h h' : Heap} {ex : List Addr} {done rest : List ZRow} {e : ZRow} (S : ZMid h0 ex m done (e :: rest) h) (nd : ((done ++ e :: rest).map (·.1)).Nodup) (hi : h'.IsTupleIter e.1 e.2.1 (m + 1)) (hs : Heap.SameBut e.1 h h') : ZMid h0 ex m (done ++ [e]) rest h' := by
  rw [List.map_append, List.map_cons] at nd
  obtain ⟨n1, n2, n3⟩ := List.nodup_append.mp nd
  have n4 := (List.nodup_cons.mp n2).1
  refine ⟨by rw [hs.1, S.size], fun x hx => ?_, fun x hx => ?_, fun a ob na nd q => ?_⟩
  · rcases List.mem_append.mp hx with hx | hx
    · exact (S.dn x hx).extBut hs.extBut fun y => n3 x.1 (List.mem_map.mpr ⟨x, hx, rfl⟩) e.1 List.mem_cons_self y
    · rw [List.mem_singleton.mp hx]
      exact hi
  · exact (S.rs x (List.mem_cons_of_mem _ hx)).extBut hs.extBut fun y => n4 (by rw [← y]; exact List.mem_map.mpr ⟨x, hx, rfl⟩)
  · exact hs.extBut _ _ (nd e (by simp)) (S.keep a ob na (fun x hx => nd x (by simp [hx])) q)
theorem ZMid.upd {h0 h : Heap} {ex : List Addr} {done rest : List ZRow} {f : Obj → Obj} (S : ZMid h0 ex m done rest h) (ho : o ∈ ex) (hi : ∀ e ∈ done ++ rest, e.1 ≠ o) : ZMid h0 ex m done rest (h.update o f) := by
  have go : ∀ {a ob}, a ≠ o → h.get? a = some ob → (h.update o f).get? a = some ob := fun {a ob} na e => (Heap.get?_update_other _ _ (Ne.symm na)).trans e
  refine ⟨by rw [Heap.size_update, S.size], fun x hx => (S.dn x hx).at fun _ y => go (hi x (by simp [hx])) y, fun x hx => (S.rs x hx).at fun _ y => go (hi x (by simp [hx])) y, fun a ob na nd q => go (fun y => na (by rw [y]; exact ho)) (S.keep a ob na nd q)⟩
end
end Eyes

set_option Elab.async false
set_option linter.all false
set_option maxRecDepth 100000
set_option maxHeartbeats 4000000
/-! list(zip(*rows)) of n rows. -/
namespace Eyes
open PySem PySem.Spec PyProof.Rows L2
section
variable {prog : Program} {w : World} {A : Around} {E : Value → Shared → Prop} {s : Shared} {z u o : Addr} {L : List ZRow} {m : Nat}
end
structure Zsn (b0 : Heap) (S z u o : Addr) (L : List ZRow) (m : Nat) (ts : List Addr) (h : Heap) : Prop where
  len : ts.length = m
  keep : ∀ a ob, b0.get? a = some ob → h.get? a = some ob
  lst : ∃ n, h.get? S = some { cls := .type "list", data := .seq (ts.map Value.ref).toArray n }
  new : ∀ t ∈ ts, b0.objs.size ≤ t ∧ (∃ ob, h.get? t = some ob) ∧ t ∉ S :: u :: o :: z :: L.map (·.1)
  nd : ts.Nodup
  at_ : ∀ (i : Nat) (t : Addr), ts[i]? = some t → IsTp h t (zAt i L)
section
variable {prog : Program} {w : World} {A : Around} {R : Result → Shared → Prop} {b0 h h' : Heap} {S z u o : Addr} {L : List ZRow} {m : Nat} {ts : List Addr}
theorem zit_all {a : Addr} (h : a ∈ z :: L.map (·.1)) : a ∈ S :: u :: o :: z :: L.map (·.1) := List.mem_cons_of_mem _ (List.mem_cons_of_mem _ (List.mem_cons_of_mem _ h))
theorem Zsn.turn (st : Zsn b0 S z u o L m ts h) (old : ∀ a ∈ z :: L.map (·.1), b0.objs.size ≤ a) (apS : S ∉ z :: L.map (·.1)) (kp : ∀ a ob, a ∉ z :: L.map (·.1) → h.get? a = some ob → h'.get? a = some ob) : Zsn b0 S z u o L m ts h' := by
  obtain ⟨n, hS⟩ := st.lst
  refine ⟨st.len, fun a ob e => kp _ _ (fun hm => ?_) (st.keep _ _ e), ⟨n, kp _ _ apS hS⟩, fun t ht => ⟨(st.new t ht).1, (st.new t ht).2.1.imp fun ob e => kp _ _ (fun hm => (st.new t ht).2.2 (zit_all hm)) e, (st.new t ht).2.2⟩, st.nd, fun i t e1 => kp _ _ (fun hm => (st.new t (List.mem_of_getElem? e1)).2.2 (zit_all hm)) (st.at_ i t e1)⟩
  exact Nat.lt_irrefl _ (Nat.lt_of_lt_of_le (Heap.lt_size e) (old a hm))
theorem Zsn.push (st : Zsn b0 S z u o L m ts h) {T : Addr} (hT : h.get? T = none) (hT0 : b0.objs.size ≤ T) (hT2 : T ∉ S :: u :: o :: z :: L.map (·.1)) (old : ∀ a ∈ S :: z :: L.map (·.1), b0.objs.size ≤ a) (kp : ∀ a ob, a ∉ S :: z :: L.map (·.1) → h.get? a = some ob → h'.get? a = some ob)
    (hS : ∃ n, h'.get? S = some { cls := .type "list", data := .seq ((ts ++ [T]).map Value.ref).toArray n }) (hp : IsTp h' T (zAt m L)) : Zsn b0 S z u o L (m + 1) (ts ++ [T]) h' := by
  have nS : ∀ {a ob}, b0.get? a = some ob → a ∉ S :: z :: L.map (·.1) := fun {a ob} e hm => Nat.lt_irrefl _ (Nat.lt_of_lt_of_le (Heap.lt_size e) (old a hm))
  have sub6 : ∀ {a : Addr}, a ∉ S :: u :: o :: z :: L.map (·.1) → a ∉ S :: z :: L.map (·.1) := fun {a} hn hm => hn (by
    rcases List.mem_cons.mp hm with e | hm
    · rw [e]
      exact List.mem_cons_self
    · exact zit_all hm)
  refine ⟨by rw [List.length_append, st.len]; rfl, fun a ob e => kp _ _ (nS e) (st.keep _ _ e), hS, fun t ht => ?_, ?_, fun i t e1 => ?_⟩
  · rcases List.mem_append.mp ht with ht | ht
    · obtain ⟨a1, a2, a3⟩ := st.new t ht
      exact ⟨a1, a2.imp fun ob e => kp _ _ (sub6 a3) e, a3⟩
    · rw [List.mem_singleton.mp ht]
      exact ⟨hT0, ⟨_, hp⟩, hT2⟩
  · refine List.nodup_append.mpr ⟨st.nd, by simp, fun a ha b hb e => ?_⟩
    rw [List.mem_singleton.mp hb] at e
    obtain ⟨ob, h2⟩ := (st.new a ha).2.1
    rw [e, hT] at h2
    cases h2
  · by_cases hi : i < ts.length
    · rw [List.getElem?_append_left hi] at e1
      exact kp _ _ (sub6 (st.new t (List.mem_of_getElem? e1)).2.2) (st.at_ i t e1)
    · have hl := st.len
      have : i = m := by
        have := (List.getElem?_eq_some_iff.mp e1).1
        rw [List.length_append] at this
        simp at this
        omega
      subst this
      rw [List.getElem?_append_right (by omega), hl, Nat.sub_self] at e1
      rw [← Option.some.inj e1]
      exact hp
end
end Eyes

set_option Elab.async false
set_option linter.all false
set_option maxRecDepth 100000
set_option maxHeartbeats 4000000
/-! The rule: list(zip(*rows)), rows a list or a tuple of n tuples (n at least one) of one length (at least one). -/
namespace Eyes
open PySem PySem.Spec PyProof.Rows L2 Evl
def kListN (K : PySem.W.Frag) (rows : List (Addr × List V)) (H1 : Hp) (Q : VK) : Prop := ∃ M : Nat, rows ≠ [] ∧ rows.length ≤ 90000 ∧ 0 < M ∧ M ≤ 90000 ∧ (∀ e ∈ rows, SqT K H1 e.1 e.2 ∧ e.2.length = M) ∧
  ∀ q us H2, Ex H1 H2 → H1 q = none → H2 q = some (.lst us) → us.length = M → (∀ i, i < M → ∃ t, us[i]? = some (.ref t) ∧ H1 t = none ∧ H2 t = some (.tup (rows.map fun e => e.2.getD i .non))) → Q (.ref q) H2
section
variable {X : Cx} {p pos p2 pos2 : Pos} {e : Expr} {te : TE}
def tListN (K : PySem.W.Frag) (te : TE) : TE := fun σ H Q => te σ H fun x H1 => ∃ (l : Addr) (rows : List (Addr × List V)), x = .ref l ∧ (SqT K H1 l (rows.map fun e => V.ref e.1) ∨ SqL K H1 l (rows.map fun e => V.ref e.1)) ∧ kListN K rows H1 Q
end
end Eyes

set_option Elab.async false
set_option linter.all false
set_option maxRecDepth 100000
set_option maxHeartbeats 4000000
/-! met, any number of rows. -/
namespace Eyes
open PySem PySem.Spec PyProof.Rows L2 Evl TL
def kNat (x : Nat) : L2.Key := .inl (x : Int)
def keysK (n : Nat) (ps : List (List Nat)) : List (List L2.Key) := (keysN n ps).map fun k => k.map kNat
def spMetN (K : PySem.W.Frag) : Sp := fun vs H Q _ => ∃ (n : Nat) (l : Addr) (rows : List (Addr × List Nat)), vs = [.ref l] ∧ SqL K H l (rows.map fun e => V.ref e.1) ∧ rows ≠ [] ∧ rows.length ≤ 90000 ∧ (∀ e ∈ rows, SqT K H e.1 (nvs e.2) ∧ IsP n e.2) ∧ 1 ≤ n ∧ n ≤ 4096 ∧
  ∀ r H', Ex H H' → H r = none → H' r = some (.tup (nvs (metN n (rows.map (·.2))))) → Q (.ref r) H'
section
variable {P : Program} {w : World} {K : PySem.W.Frag} {mg : Str → Option Value} {base : Heap} {AA : Adr}
end
end Eyes

set_option Elab.async false
set_option linter.all false
set_option maxRecDepth 100000
set_option maxHeartbeats 4000000
/-! The law's knots: a row of (title, case, case). -/
namespace Eyes
open PySem PySem.Spec PyProof.Rows L2 Evl TL
abbrev Knot := Str × Nat × Nat
def Knots (G : Hp) (us : List V) (ks : List Knot) : Prop := us.length = ks.length ∧ ∀ (i : Nat) (u : V) (k : Knot), us[i]? = some u → ks[i]? = some k → ∃ p, u = .ref p ∧ G p = some (.tup [.str k.1, .int (k.2.1 : Nat), .int (k.2.2 : Nat)])
theorem Knots.mono {G G' : Hp} {us : List V} {ks : List Knot} (e : Ex G G') (h : Knots G us ks) : Knots G' us ks := ⟨h.1, fun i u k h1 h2 => by
  obtain ⟨p, rfl, hp⟩ := h.2 i u k h1 h2
  exact ⟨p, rfl, e _ _ hp⟩⟩
theorem Knots.put {G : Hp} {D : Addr} {us vs ws : List V} {ks : List Knot} (hD : G D = some (.lst vs)) (h : Knots G us ks) : Knots (upd G D (.lst ws)) us ks := ⟨h.1, fun i u k h1 h2 => by
  obtain ⟨p, rfl, hp⟩ := h.2 i u k h1 h2
  refine ⟨p, rfl, ?_⟩
  rw [upd_ne fun y => by rw [y, hD] at hp; cases hp]
  exact hp⟩
theorem Knots.snoc {G : Hp} {us : List V} {ks : List Knot} {p : Addr} {k : Knot} (h : Knots G us ks) (hp : G p = some (.tup [.str k.1, .int (k.2.1 : Nat), .int (k.2.2 : Nat)])) : Knots G (us ++ [.ref p]) (ks ++ [k]) := by
  refine ⟨by rw [List.length_append, List.length_append, h.1]; rfl, fun i u x h1 h2 => ?_⟩
  by_cases hi : i < us.length
  · rw [List.getElem?_append_left hi] at h1
    rw [List.getElem?_append_left (by rw [← h.1]; exact hi)] at h2
    exact h.2 i u x h1 h2
  · have := (List.getElem?_eq_some_iff.mp h1).1
    rw [List.length_append] at this
    have e : i = us.length := by
      simp at this
      omega
    subst e
    rw [List.getElem?_append_right (Nat.le_refl _), Nat.sub_self] at h1
    rw [List.getElem?_append_right (by rw [← h.1]; exact Nat.le_refl _), h.1, Nat.sub_self] at h2
    cases h1
    cases h2
    exact ⟨p, rfl, hp⟩
def spKnots : Sp := fun vs H Q _ => ∃ (b tla : Addr) (G : Hp) (ts : List Str) (n c : Nat), vs = [.ref b, .ref tla, .int (n : Int), .int (c : Int)] ∧ At b G H ∧ G tla = some (.lst (ts.map V.str)) ∧ ts ≠ [] ∧ ts.length ≤ 1000 ∧ 1 ≤ n ∧ n ≤ 4096 ∧ c ≤ 1000 ∧
  ∀ (D : Addr) (us : List V) (ks : List Knot) (G' H' : Hp), Ex G G' → At b G' H' → G' D = some (.lst us) → G D = none → Knots G' us ks → ks.length = c → (∀ k ∈ ks, k.1 ∈ ts ∧ 1 ≤ k.2.1 ∧ k.2.1 ≤ n ∧ 1 ≤ k.2.2 ∧ k.2.2 ≤ n) → Q (.ref D) H'
section
variable {P : Program} {w : World} {K : PySem.W.Frag} {mg : Str → Option Value} {base : Heap} {AA : Adr}
end
end Eyes

set_option Elab.async false
set_option linter.all false
set_option maxRecDepth 100000
set_option maxHeartbeats 4000000
/-! The law's views: a dict of names to partings, by the knots one after another. -/
namespace Eyes
open PySem PySem.Spec PyProof.Rows L2 Evl TL
/-! ### views: names and partings in their order -/
abbrev Vw := List (Str × List Nat)
def wGet (f : Vw) (t : Str) : Option (List Nat) := (f.find? fun e => decide (e.1 = t)).map (·.2)
def wPut (f : Vw) (t : Str) (p : List Nat) : Vw := if (f.any fun e => decide (e.1 = t)) = true then f.map (fun e => if e.1 = t then (e.1, p) else e) else f ++ [(t, p)]
def knotV (n : Nat) (f : Vw) (k : Knot) : Vw := wPut f k.1 (mrg1 ((wGet f k.1).getD (alone n)) k.2.1 k.2.2)
def knotsV (n : Nat) (ks : List Knot) : Vw := ks.foldl (knotV n) []
abbrev VRow := Str × Addr × List Nat
def vK (W : List VRow) : List (L2.Key × V) := W.map fun e => (.inr e.1, .ref e.2.1)
def vW (W : List VRow) : Vw := W.map fun e => (e.1, e.2.2)
def vGet (W : List VRow) (t : Str) : Option VRow := W.find? fun e => decide (e.1 = t)
def vPut (W : List VRow) (t : Str) (a : Addr) (p : List Nat) : List VRow := if (W.any fun e => decide (e.1 = t)) = true then W.map (fun e => if e.1 = t then (e.1, a, p) else e) else W ++ [(t, a, p)]
theorem inr_iff {s t : Str} : (Sum.inr s : L2.Key) = .inr t ↔ s = t := ⟨fun h => Sum.inr.inj h, fun h => by rw [h]⟩
theorem vK_get (t : Str) : ∀ W : List VRow, valV (vK W) (.inr t) = (vGet W t).map fun e => .ref e.2.1
  | [] => rfl
  | e :: W => by
    show valV (((.inr e.1 : L2.Key), V.ref e.2.1) :: vK W) (.inr t) = _
    unfold vGet
    rw [List.find?_cons]
    by_cases h : e.1 = t
    · rw [valV_pos (inr_iff.mpr h), decide_eq_true h]
      rfl
    · rw [valV_neg (fun z => h (inr_iff.mp z)), decide_eq_false h]
      exact vK_get t W
theorem vW_get (t : Str) : ∀ W : List VRow, wGet (vW W) t = (vGet W t).map fun e => e.2.2
  | [] => rfl
  | e :: W => by
    unfold wGet vGet vW
    rw [List.map_cons, List.find?_cons, List.find?_cons]
    by_cases h : e.1 = t
    · rw [decide_eq_true h]
      rfl
    · rw [decide_eq_false h]
      exact vW_get t W
def VwAt (H : Hp) (D : Addr) (n : Nat) (f : Vw) : Prop := ∃ W : List VRow, H D = some (.dK (vK W)) ∧ vW W = f ∧ ∀ e ∈ W, H e.2.1 = some (.tup (nvs e.2.2)) ∧ IsP n e.2.2
theorem VwAt.mono {H H' : Hp} {D : Addr} {n : Nat} {f : Vw} (e : Ex H H') (h : VwAt H D n f) : VwAt H' D n f := by
  obtain ⟨W, h1, h2, h3⟩ := h
  exact ⟨W, e _ _ h1, h2, fun x hx => ⟨e _ _ (h3 x hx).1, (h3 x hx).2⟩⟩
def spViews (K : PySem.W.Frag) : Sp := fun vs H Q _ => ∃ (n : Nat) (l : Addr) (us : List V) (ks : List Knot), vs = [.int (n : Int), .ref l] ∧ n ≤ 4096 ∧ H l = some (.lst us) ∧ Knots H us ks ∧ ks.length ≤ 1000 ∧ (∀ k ∈ ks, 1 ≤ k.2.1 ∧ k.2.1 ≤ n ∧ 1 ≤ k.2.2 ∧ k.2.2 ≤ n) ∧
  ∀ D H', Ex H H' → H D = none → VwAt H' D n (knotsV n ks) → Q (.ref D) H'
section
variable {P : Program} {w : World} {K : PySem.W.Frag} {mg : Str → Option Value} {base : Heap} {AA : Adr}
end
end Eyes

set_option Elab.async false
set_option linter.all false
set_option maxRecDepth 100000
set_option maxHeartbeats 4000000
/-! What is seen of the views: the names in their order, without those that part nothing. -/
namespace Eyes
open PySem PySem.Spec PyProof.Rows L2 Evl TL
def seen1 (n : Nat) (f : Vw) (t : Str) : Option (Str × List Nat) := (wGet f t).bind fun p => if p = alone n then none else some (t, p)
def seenV (n : Nat) (f : Vw) (ys : List Str) : Vw := ys.filterMap (seen1 n f)
def spSeen (K : PySem.W.Frag) : Sp := fun vs H Q _ => ∃ (n : Nat) (l : Addr) (f : Vw), vs = [.int (n : Int), .ref l] ∧ n ≤ 4096 ∧ VwAt H l n f ∧ f.length < 64 ∧ (f.map (·.1)).Nodup ∧
  ∀ D H' ys, Ex H H' → H D = none → ys.Perm (f.map (·.1)) → sortedS ys = true → VwAt H' D n (seenV n f ys) → Q (.ref D) H'
section
variable {P : Program} {w : World} {K : PySem.W.Frag} {mg : Str → Option Value} {base : Heap} {AA : Adr}
end
end Eyes

set_option Elab.async false
set_option linter.all false
set_option maxRecDepth 100000
set_option maxHeartbeats 4000000
/-! What the law sees of a circle. -/
namespace Eyes
open PySem PySem.Spec PyProof.Rows L2 Evl TL
def foldP (n : Nat) (k : Bool) : List (List Nat) → List Nat
  | [] => alone n
  | p :: r => r.foldl (fun a q => if k = true then metN n [a, q] else mrgs a (numd n q)) p
mutual
def viewC (n : Nat) (f : Vw) : Ci → List Nat
  | .eye t => (wGet f t).getD (alone n)
  | .node k ps => foldP n k (viewL n f ps)
def viewL (n : Nat) (f : Vw) : List Ci → List (List Nat)
  | [] => []
  | c :: r => viewC n f c :: viewL n f r
end
theorem VwAt.get {H : Hp} {D : Addr} {n : Nat} {f : Vw} (h : VwAt H D n f) (t : Str) : ∃ kvs, H D = some (.dK kvs) ∧ ∀ (r : Addr) (H' : Hp), Ex H H' → H' r = some (.tup (nvs (alone n))) → ∃ a, (valV kvs (.inr t)).getD (.ref r) = .ref a ∧ H' a = some (.tup (nvs ((wGet f t).getD (alone n)))) := by
  obtain ⟨W, h1, h2, h3⟩ := h
  refine ⟨_, h1, fun r H' e hr => ?_⟩
  rw [vK_get, ← h2, vW_get]
  cases hg : vGet W t with
  | none => exact ⟨r, rfl, hr⟩
  | some x => exact ⟨x.2.1, rfl, e _ _ (h3 x (List.mem_of_find?_eq_some hg)).1⟩
def spView (K : PySem.W.Frag) (m : Nat) : Sp := fun vs H Q _ => ∃ (n : Nat) (l : Addr) (f : Vw) (v : V) (c : Ci), vs = [.int (n : Int), .ref l, v] ∧ 1 ≤ n ∧ n ≤ 4096 ∧ VwAt H l n f ∧ Rep H v c.data ∧ c.depth < m ∧ c.norm ∧ ∀ r H', Ex H H' → H' r = some (.tup (nvs (viewC n f c))) → Q (.ref r) H'
section
variable {P : Program} {w : World} {K : PySem.W.Frag} {mg : Str → Option Value} {base : Heap} {AA : Adr}
end
end Eyes

set_option Elab.async false
set_option linter.all false
/-! A sorted order of texts is the only one. -/
namespace Eyes
open PySem PySem.Spec PyProof.Rows
def leC (a b : List Nat) : Prop := ltCps b a = false
end Eyes

set_option Elab.async false
set_option linter.all false
set_option maxRecDepth 100000
set_option maxHeartbeats 4000000
namespace Eyes
open PySem PySem.Spec PyProof.Rows L2 Evl TL
def spCounting (K : PySem.W.Frag) : Sp := fun vs H Q _ => ∃ (n : Nat) (l : Addr) (f : Vw), vs = [.int (n : Int), .ref l] ∧ n ≤ 4096 ∧ VwAt H l n f ∧ f.length < 64 ∧ (f.map (·.1)).Nodup ∧
  ∀ D H' ys, Ex H H' → H D = none → ys.Perm (f.map (·.1)) → sortedS ys = true → VwAt H' D n (seenV n f ys) → Q (.ref D) H'
def CtAt (H H' : Hp) (D : Addr) (n : Nat) (f : Vw) (ys : List Str) (i : Nat) : Prop := ∃ W2 : List VRow, Ex H H' ∧ H' D = some (.dK (vK W2)) ∧ vW W2 = seenV n f (ys.take i) ∧ W2.length ≤ i ∧ (∀ e ∈ W2, e.1 ∈ ys.take i) ∧ ∀ e ∈ W2, H' e.2.1 = some (.tup (nvs e.2.2)) ∧ IsP n e.2.2
section
variable {P : Program} {w : World} {K : PySem.W.Frag} {mg : Str → Option Value} {base : Heap} {AA : Adr}
end
end Eyes

set_option Elab.async false
set_option linter.all false
set_option maxRecDepth 100000
set_option maxHeartbeats 4000000
/-! The program's own parting of ties: a table of names to pairs, then the pairs linked. -/
namespace Eyes
open PySem PySem.Spec PyProof.Rows L2 Evl TL
def TdRow (H : Hp) (n m : Nat) (e : VRow) : Prop := ∃ (us : List V) (l : List (Nat × Nat)), H e.2.1 = some (.lst us) ∧ us.length = l.length ∧ us.length ≤ m ∧ (∀ (i : Nat) v, us[i]? = some v → ∃ q xy, v = .ref q ∧ l[i]? = some xy ∧ H q = some (.tup [.int (xy.1 : Nat), .int (xy.2 : Nat)])) ∧ inN n l ∧ e.2.2 = mrgs (alone n) l
theorem TdRow.keep {H H' : Hp} {n m m' : Nat} {e : VRow} (h : TdRow H n m e) (h1 : ∀ us, H e.2.1 = some (.lst us) → H' e.2.1 = some (.lst us)) (h2 : ∀ q xs, H q = some (.tup xs) → H' q = some (.tup xs)) (hm : m ≤ m') : TdRow H' n m' e := by
  obtain ⟨us, l, a1, a2, a3, a4, a5, a6⟩ := h
  exact ⟨us, l, h1 _ a1, a2, Nat.le_trans a3 hm, fun i v hv => by
    obtain ⟨q, xy, e1, e2, e3⟩ := a4 i v hv
    exact ⟨q, xy, e1, e2, h2 _ _ e3⟩, a5, a6⟩
def TdAt (H H' : Hp) (D : Addr) (n m : Nat) (f : Vw) (W : List VRow) : Prop := Ex H H' ∧ H' D = some (.dK (vK W)) ∧ vW W = f ∧ W.length ≤ m ∧ (W.map (·.2.1)).Nodup ∧ ∀ e ∈ W, H e.2.1 = none ∧ e.2.1 ≠ D ∧ TdRow H' n m e
def spTied (K : PySem.W.Frag) : Sp := fun vs H Q _ => ∃ (n : Nat) (a : Addr) (us : List V) (ks : List Knot), vs = [.int (n : Int), .ref a] ∧ n ≤ 4096 ∧ SqLT K H a us ∧ Knots H us ks ∧ ks.length ≤ 1000 ∧ (∀ k ∈ ks, 1 ≤ k.2.1 ∧ k.2.1 ≤ n ∧ 1 ≤ k.2.2 ∧ k.2.2 ≤ n) ∧
  ∀ D H', Ex H H' → H D = none → VwAt H' D n (knotsV n ks) → Q (.ref D) H'
section
variable {P : Program} {w : World} {K : PySem.W.Frag} {mg : Str → Option Value} {base : Heap} {AA : Adr}
end
end Eyes

set_option Elab.async false
set_option linter.all false
set_option maxRecDepth 100000
set_option maxHeartbeats 4000000
/-! Worlds: what is checked, how one is made, its names and partings. -/
namespace Eyes
open PySem PySem.Spec PyProof.Rows L2 Evl TL

def spCheckMany : Sp := fun vs H Q _ => ∃ n : Nat, vs = [.int (n : Int)] ∧ 1 ≤ n ∧ n ≤ 2400 ∧ Q .non H
def tieOk (n : Nat) (k : Knot) : Prop := nameS k.1 = true ∧ okS k.1 ∧ (1 ≤ k.2.1 ∧ k.2.1 ≤ n) ∧ 1 ≤ k.2.2 ∧ k.2.2 ≤ n
def spIsTie : Sp := fun vs H Q _ => ∃ (p : Addr) (n : Nat) (k : Knot), vs = [.ref p, .int (n : Int)] ∧ H p = some (.tup [.str k.1, .int (k.2.1 : Nat), .int (k.2.2 : Nat)]) ∧ tieOk n k ∧ ∀ H', Ex H H' → Q (.bl true) H'
def spCheckTies (K : PySem.W.Frag) : Sp := fun vs H Q _ => ∃ (a : Addr) (n : Nat) (us : List V) (ks : List Knot), vs = [.int (n : Int), .ref a] ∧ SqLT K H a us ∧ Knots H us ks ∧ (∀ k ∈ ks, tieOk n k) ∧ ks.length ≤ 1000 ∧ ∀ H', Ex H H' → Q .non H'
section
variable {P : Program} {w : World} {K : PySem.W.Frag} {mg : Str → Option Value} {base : Heap} {AA : Adr}
end
end Eyes

set_option Elab.async false
set_option linter.all false
set_option maxRecDepth 100000
set_option maxHeartbeats 4000000
/-! Worlds: how one is made, its names and partings. -/
namespace Eyes
open PySem PySem.Spec PyProof.Rows L2 Evl TL
def wfl (n : Nat) (D : Addr) : List (Str × V) := putF "_partings" (.ref D) (putF "many" (.int (n : Int)) [])
section
variable {n : Nat} {D : Addr}
end
def WorldAt (C : Addr) (H : Hp) (v : V) (n : Nat) (f : Vw) : Prop := ∃ p dx D, v = .ref p ∧ H p = some (.ins C dx (wfl n D)) ∧ VwAt H D n f
theorem WorldAt.mono {C : Addr} {H H' : Hp} {v : V} {n : Nat} {f : Vw} (e : Ex H H') (h : WorldAt C H v n f) : WorldAt C H' v n f := by
  obtain ⟨p, dx, D, h1, h2, h3⟩ := h
  exact ⟨p, dx, D, h1, e _ _ h2, h3.mono e⟩
def spInitW (K : PySem.W.Frag) (C : Addr) : Sp := fun vs H Q _ => ∃ (x dx a : Addr) (n : Nat) (us : List V) (ks : List Knot) (G : Hp), vs = [.ref x, .int (n : Int), .ref a] ∧ G x = none ∧ Ex G H ∧ H x = some (.ins C dx []) ∧ SqLT K G a us ∧ Knots G us ks ∧ ks.length < 64 ∧ (∀ k ∈ ks, tieOk n k) ∧ 1 ≤ n ∧ n ≤ 2400 ∧
  ∀ H' ys, Ex G H' → ys.Perm ((knotsV n ks).map (·.1)) → sortedS ys = true → WorldAt C H' (.ref x) n (seenV n (knotsV n ks) ys) → Q .non H'
def spEyesW (C : Addr) : Sp := fun vs H Q _ => ∃ (v : V) (n : Nat) (f : Vw), vs = [v] ∧ WorldAt C H v n f ∧ ∀ l H', Ex H H' → H l = none → H' l = some (.lst ((f.map (·.1)).map V.str)) → Q (.ref l) H'
def spPartsW (C : Addr) : Sp := fun vs H Q _ => ∃ (v : V) (n : Nat) (f : Vw), vs = [v] ∧ WorldAt C H v n f ∧ ∀ D H', Ex H H' → H D = none → VwAt H' D n f → Q (.ref D) H'
def spNamedW (C : Addr) : Sp := fun vs H Q _ => ∃ (v : V) (n : Nat) (f : Vw) (t : Str), vs = [v, .str t] ∧ n ≤ 4096 ∧ WorldAt C H v n f ∧ ∀ r H', Ex H H' → H' r = some (.tup (nvs ((wGet f t).getD (alone n)))) → Q (.ref r) H'
def spLenW (C : Addr) : Sp := fun vs H Q _ => ∃ (v : V) (n : Nat) (f : Vw), vs = [v] ∧ n ≤ 4096 ∧ WorldAt C H v n f ∧ Q (.int (n : Int)) H
section
variable {P : Program} {w : World} {K : PySem.W.Frag} {mg : Str → Option Value} {base : Heap} {AA : Adr}
end
end Eyes

set_option Elab.async false
set_option linter.all false
set_option maxRecDepth 100000
set_option maxHeartbeats 4000000
/-! What stays where only tables of lambdas change. -/
namespace Eyes
open PySem PySem.Spec PyProof.Rows L2 Evl TL LamX
theorem At.extN {b : Addr} {G H H1 : Hp} {TT : List (Addr × Str)} (h : At b G H) (e : ExtN H H1) (t : Tabs TT H1) : ∃ G', At b G' H1 ∧ ExtN G G' ∧ Tabs TT G' ∧ ∀ a o, H1 a = some o → H a = none ∨ (∃ o2, G a = some o2) → G' a = some o := by
  obtain ⟨c, ns, i, r, m, n, B⟩ := h
  have hb := e _ _ B.at_ (fun _ => nofun)
  have hc := e _ _ B.cells (fun _ => nofun)
  have keep : ∀ {a : Addr} {o : HO}, H1 a = some o → (∀ xs, o ≠ .lst xs) → (if a = b ∨ a = c then none else H1 a) = some o := fun {a o} z n => by
    rw [if_neg ?_]
    · exact z
    · rintro (rfl | rfl)
      · rw [hb] at z
        cases z
        exact n _ rfl
      · rw [hc] at z
        cases z
        exact n _ rfl
  refine ⟨fun a => if a = b ∨ a = c then none else H1 a, ⟨c, ns, i, r, m, n, if_pos (.inl rfl), if_pos (.inr rfl), fun a u z => ?_, hb, hc, B.ne, B.i0, B.r0, B.m0, B.m1⟩, fun a o z nt => ?_, fun p hp => ?_, fun a o z g => ?_⟩
  · by_cases hc : a = b ∨ a = c
    · have z : (if a = b ∨ a = c then none else H1 a) = some u := z
      rw [if_pos hc] at z
      cases z
    · have z : (if a = b ∨ a = c then none else H1 a) = some u := z
      rw [if_neg hc] at z
      exact z
  · show (if a = b ∨ a = c then none else H1 a) = some o
    rw [if_neg ?_]
    · exact e _ _ (B.ex _ _ z) nt
    · rintro (rfl | rfl)
      · rw [B.nb] at z
        cases z
      · rw [B.nc] at z
        cases z
  · obtain ⟨ps, h1, h2, h3⟩ := t p hp
    refine ⟨ps, keep h1 (fun _ => nofun), h2, fun pos cv hcv => ?_⟩
    obtain ⟨c', e1, e2⟩ := h3 pos cv hcv
    exact ⟨c', e1, keep e2 (fun _ => nofun)⟩
  · show (if a = b ∨ a = c then none else H1 a) = some o
    rw [if_neg ?_]
    · exact z
    · rintro (rfl | rfl)
      · rcases g with g | ⟨o2, g⟩
        · rw [B.at_] at g
          cases g
        · rw [B.nb] at g
          cases g
      · rcases g with g | ⟨o2, g⟩
        · rw [B.cells] at g
          cases g
        · rw [B.nc] at g
          cases g
theorem CiAt.exN {C : Addr} {H H' : Hp} {v : V} {c : Ci} (e : ExtN H H') (h : CiAt C H v c) : CiAt C H' v c := h.mono2 (fun _ _ _ _ z => e _ _ z (fun _ => nofun)) fun _ _ z => e _ _ z (fun _ => nofun)
mutual
theorem Rep.exN {H H' : Hp} (e : ExtN H H') : ∀ {v : V} {d : PyData}, Rep H v d → Rep H' v d
  | _, _, .non => .non
  | _, _, .bl b => .bl b
  | _, _, .int i => .int i
  | _, _, .str z => .str z
  | _, _, .lst h r => .lst (e _ _ h (fun _ => nofun)) (Reps.exN e r)
  | _, _, .tup h r => .tup (e _ _ h (fun _ => nofun)) (Reps.exN e r)
theorem Reps.exN {H H' : Hp} (e : ExtN H H') : ∀ {us : List V} {ds : List PyData}, Reps H us ds → Reps H' us ds
  | _, _, .nil => .nil
  | _, _, .cons h r => .cons (Rep.exN e h) (Reps.exN e r)
end
theorem Sd.exN {H H' : Hp} (e : ExtN H H') {n : Nat} {x y : V} (h : Sd H n x y) : Sd H' n x y := by
  induction h with
  | sc h => exact .sc h
  | lst h1 h2 h3 h4 _ ih => exact .lst (e _ _ h1 (fun _ => nofun)) (e _ _ h2 (fun _ => nofun)) h3 h4 ih
  | tup h1 h2 h3 h4 _ ih => exact .tup (e _ _ h1 (fun _ => nofun)) (e _ _ h2 (fun _ => nofun)) h3 h4 ih
  | dct h1 h2 h3 h4 h5 _ ih => exact .dct (e _ _ h1 (fun _ => nofun)) (e _ _ h2 (fun _ => nofun)) h3 h4 h5 ih
theorem VwAt.exN {H H' : Hp} {D : Addr} {n : Nat} {f : Vw} (e : ExtN H H') (h : VwAt H D n f) : VwAt H' D n f := by
  obtain ⟨W, h1, h2, h3⟩ := h
  exact ⟨W, e _ _ h1 (fun _ => nofun), h2, fun x hx => ⟨e _ _ (h3 x hx).1 (fun _ => nofun), (h3 x hx).2⟩⟩
theorem WorldAt.exN {C : Addr} {H H' : Hp} {v : V} {n : Nat} {f : Vw} (e : ExtN H H') (h : WorldAt C H v n f) : WorldAt C H' v n f := by
  obtain ⟨p, dx, D, h1, h2, h3⟩ := h
  exact ⟨p, dx, D, h1, e _ _ h2 (fun _ => nofun), h3.exN e⟩
end Eyes

set_option Elab.async false
set_option linter.all false
set_option maxRecDepth 100000
set_option maxHeartbeats 8000000
/-! The law of all partings. -/
namespace Eyes
open PySem PySem.Spec PyProof.Rows L2 Evl TL LamX
def spLaw (K : PySem.W.Frag) (TT : List (Addr × Str)) : Sp := fun vs H Q _ => ∃ (a : Addr) (ns : List Int), vs = [.ref a] ∧ SqL K H a (ns.map V.int) ∧ ns.length ≤ 63 ∧ Tabs TT H ∧ ∀ H', Q (.bl true) H'
theorem TT_memA (AA : Adr) : (AA.tbA, (envOfC "law" (defScope s_law) 0 0 .none).qual ++ "<lambda>") ∈ TT AA := .head _
theorem At.allG {b : Addr} {G H0 H : Hp} (h : At b G H0) (e : Ex H0 H) : ∃ G', At b G' H ∧ Ex G G' ∧ (∀ a o, H a = some o → (∀ xs, o ≠ .lst xs) → G' a = some o) ∧ ∀ a o, H0 a = none → H a = some o → G' a = some o := by
  obtain ⟨G', h1, h2, h3⟩ := h.all e
  refine ⟨G', h1, h2, fun a o ha hn => ?_, fun a o hn ha => ?_⟩
  · rw [h3 a fun xs hx => ?_]
    · exact ha
    · have := e _ _ hx
      rw [ha] at this
      exact hn xs (Option.some.inj this)
  · rw [h3 a fun xs hx => by rw [hn] at hx; cases hx]
    exact ha
theorem rep_row {H : Hp} {a : Addr} {p : List Nat} (h : H a = some (.tup (nvs p))) : Rep H (.ref a) (tupD p) := .tup h (reps_ndats _)
theorem Rws.inG {H G : Hp} {us : List V} {l : List (List Nat)} (h : Rws H us l) (k : ∀ a o, H a = some o → (∀ xs, o ≠ .lst xs) → G a = some o) : Rws G us l := ⟨h.1, fun i u hu => by
  obtain ⟨t, c, h1, h2, h3⟩ := h.2 i u hu
  exact ⟨t, c, h1, h2, k _ _ h3 (fun _ => nofun)⟩⟩
theorem size8 {kx : V} (h : kx ∈ [V.int 3, .int 4, .int 2, .int 5, .int 1, .int 6]) : ∃ n : Nat, kx = .int (n : Int) ∧ 1 ≤ n ∧ n ≤ 6 := by
  simp only [List.mem_cons, List.not_mem_nil, or_false] at h
  rcases h with rfl | rfl | rfl | rfl | rfl | rfl
  · exact ⟨3, rfl, by decide, by decide⟩
  · exact ⟨4, rfl, by decide, by decide⟩
  · exact ⟨2, rfl, by decide, by decide⟩
  · exact ⟨5, rfl, by decide, by decide⟩
  · exact ⟨1, rfl, by decide, by decide⟩
  · exact ⟨6, rfl, by decide, by decide⟩
def whyD (d : PyData) : PyData := if numD d 1 6 = true then .tuple [.str "", .tuple []] else .tuple [.str "InvalidNumber", .tuple [d]]
theorem tNext_at {D : Ends} {σ σ' : L2.St} {H : Hp} (h : σ = σ') (q : tNext D σ' H) : tNext D σ H := by
  rw [h]
  exact q
theorem iteF2 {c : Bool} {p q : Prop} (h : c = false) (hq : q) : if c = true then p else q := by
  rw [h]
  exact hq
theorem iteT2 {c : Bool} {p q : Prop} (h : c = true) (hq : p) : if c = true then p else q := by
  rw [h]
  exact hq
theorem or_and4 {a b c a2 b2 c2 : L2.TT} {t u : TS} {D : Ends} {r1 : VK} {r2 r3 : L2.St → Hp → Prop} {σ : L2.St} {H : Hp} {A B A2 B2 : Bool}
    (ha : ∀ Q H', Ex H H' → Q A H' → a σ H' Q) (hb : ∀ Q H', Ex H H' → Q B H' → b σ H' Q) (hc : A = true → B = true → ∀ H' Q, Ex H H' → (∀ H'', Ex H' H'' → Q true H'') → c σ H' Q)
    (ha2 : ∀ Q H', Ex H H' → Q A2 H' → a2 σ H' Q) (hb2 : ∀ Q H', Ex H H' → Q B2 H' → b2 σ H' Q) (hc2 : A2 = true → B2 = true → ∀ H' Q, Ex H H' → (∀ H'', Ex H' H'' → Q true H'') → c2 σ H' Q)
    (q : ∀ H', Ex H H' → u D σ H') : tNext { nx := tSeq (tIfS (tOr (tAnd a (tAnd b (tNot c))) (tAnd a2 (tAnd b2 (tNot c2)))) t tNext) u D, rt := r1, bk := r2, ct := r3 } σ H := by
  unfold tNext tSeq
  dsimp only []
  have second : ∀ H', Ex H H' → tAnd a2 (tAnd b2 (tNot c2)) σ H' fun k H1 => if k = true then t { D with nx := u D } σ H1 else tNext { D with nx := u D } σ H1 := fun H' e => by
    refine ha2 _ H' e ?_
    cases A2 with
    | false => exact q _ e
    | true =>
      refine hb2 _ H' e ?_
      cases B2 with
      | false => exact q _ e
      | true => exact hc2 rfl rfl _ _ e fun H'' e' => q _ (e.trans e')
  refine ha _ H (Ex.refl _) ?_
  cases A with
  | false => exact second H (Ex.refl _)
  | true =>
    refine hb _ H (Ex.refl _) ?_
    cases B with
    | false => exact second H (Ex.refl _)
    | true => exact hc rfl rfl _ _ (Ex.refl _) fun H'' e' => second _ e'
theorem why8 {AA : Adr} {tl : XK → Hp → VK → Prop} {v : V} {d : PyData} {Ha : Hp} {Q : VK} (hb : ∀ (E1 : XK) (Q1 : VK), (numD d 1 6 = true → ∀ w H', Ex Ha H' → Q1 w H') → (numD d 1 6 = false → ∀ dd H', Ha dd = none → Ex Ha H' → H' dd = some (.xd [("value", v)]) → E1 (.ref AA.InvalidNumber) (some dd) H') → tl E1 Ha Q1)
    (rv : Rep Ha v d) (q : ∀ p H', Ex Ha H' → Rep H' (.ref p) (whyD d) → Q (.ref p) H') : tWhy3 AA tl Ha Q := by
  refine ⟨fun cls z H1 => numD d 1 6 = false ∧ cls = .ref AA.InvalidNumber ∧ ∃ dd, z = some dd ∧ Ex Ha H1 ∧ H1 dd = some (.xd [("value", v)]), fun w H1 => numD d 1 6 = true ∧ Ex Ha H1, hb _ _ (fun hn w H' e => ⟨hn, e⟩) (fun hn dd H' nd e hx => ⟨hn, rfl, dd, rfl, e, hx⟩), ?_, ?_⟩
  · rintro w H1 ⟨hn, e⟩ p1 p2 H' e' h1 h2
    refine q p2 H' (e.trans e') ?_
    unfold whyD
    rw [if_pos hn]
    exact .tup h2 (.cons (.str _) (.cons (.tup h1 .nil) .nil))
  · rintro cls z H1 ⟨hn, hc, dd, hz, e, hx⟩
    refine ⟨"InvalidNumber", "value", dd, v, .inl ⟨hc, rfl, rfl⟩, hz, hx, fun p1 p2 H' e' h1 h2 => q p2 H' (e.trans e') ?_⟩
    unfold whyD
    rw [if_neg (by rw [hn]; simp)]
    exact .tup h2 (.cons (.str _) (.cons (.tup h1 (.cons (Rep.mono (e.trans e') rv) .nil)) .nil))
theorem whyD_small {d : PyData} (h1 : d.depth < 5) (h2 : wid d ≤ 4096) : (PyData.list [whyD d, whyD d]).depth < 12 ∧ wid (.list [whyD d, whyD d]) ≤ 90000 := by
  have key : (whyD d).depth ≤ 7 ∧ wid (whyD d) ≤ 4096 := by
    unfold whyD
    split
    · exact ⟨by show 2 ≤ 7; decide, by show 2 ≤ 4096; decide⟩
    · refine ⟨?_, ?_⟩
      · have e1 : PyData.depthAll [d] ≤ 5 := depthAll_of fun z hz => by rw [List.mem_singleton.mp hz]; omega
        have e2 : PyData.depthAll [.str "InvalidNumber", .tuple [d]] ≤ 6 := depthAll_of fun z hz => by
          simp only [List.mem_cons, List.not_mem_nil, or_false] at hz
          rcases hz with rfl | rfl
          · exact Nat.zero_le _
          · show PyData.depthAll [d] + 1 ≤ 6
            omega
        show PyData.depthAll _ + 1 ≤ 7
        omega
      · show max 2 (max 0 (max (max 1 (max (wid d) 0)) 0)) ≤ 4096
        omega
  refine ⟨?_, ?_⟩
  · have e2 : PyData.depthAll [whyD d, whyD d] ≤ 7 := depthAll_of fun z hz => by
      simp only [List.mem_cons, List.not_mem_nil, or_false] at hz
      rcases hz with rfl | rfl <;> exact key.1
    show PyData.depthAll _ + 1 < 12
    omega
  · show max 2 (max (wid (whyD d)) (max (wid (whyD d)) 0)) ≤ 90000
    omega
theorem num_int {H : Hp} {v : V} {d : PyData} (r : Rep H v d) (h : numD d 1 6 = true) : ∃ n : Nat, v = .int n ∧ 1 ≤ n ∧ n ≤ 6 := by
  cases r with
  | int i =>
    have h : (decide ((1 : Int) ≤ i) && decide (i ≤ 6)) = true := h
    rw [Bool.and_eq_true, decide_eq_true_iff, decide_eq_true_iff] at h
    exact ⟨i.toNat, congrArg V.int (by omega), by omega, by omega⟩
  | _ => cases h
section
variable {P : Program} {w : World} {K : PySem.W.Frag} {mg : Str → Option Value} {base : Heap} {AA : Adr}
theorem TT_unA (T : Txt K mg AA) : ∀ p ∈ TT AA, p.1 = AA.tbA → p.2 = (envOfC "law" (defScope s_law) 0 0 .none).qual ++ "<lambda>" := fun p hp e => by
  rw [List.mem_singleton.mp hp]
theorem ok_law (T : Txt K mg AA) (TB : TabB base mg AA.cdA AA.tbA) : Pr P w K mg base "law" s_law p_law 29 (spLaw K (TT AA)) := by
  refine pr_mkC T.f_law sc_law (fun vs H Q E h => ?_) (fun f A outer s H vs Q E hr h => ?_)
  · obtain ⟨a, ns, rfl, _⟩ := h
    rfl
  · obtain ⟨a, ns, rfl, hS, hlen, hT, q⟩ := h
    refine ⟨_, (pss_cons (ps_set (i := 1) sc_law.nd rfl (.inl rfl) (pcall (ok_law_bag T) hr (pa_cons (pv 0) pa_nil)))
      (pss_cons (ps_for PassesOwn.never rfl (pi_range1 (by rfl) T.n_range (pa_cons pe_int pa_nil)) (pg_name (i := 2) sc_law.nd rfl (.inl rfl))
      (pss_cons (ps_set (i := 3) sc_law.nd rfl (.inl rfl) (pcall (ok_law_of T) hr (pa_cons (pv 1) (pa_cons (pe_lst (pa_cons pe_int (pa_cons pe_int (pa_cons pe_int (pa_cons pe_int (pa_cons pe_int (pa_cons pe_int pa_nil))))))) pa_nil))))
      (pss_cons (ps_set (i := 4) sc_law.nd rfl (.inl rfl) (pcall (ok_law_grown T) hr (pa_cons (pv 3) pa_nil)))
      (pss_cons (ps_set (i := 5) sc_law.nd rfl (.inl rfl) (pcallY (ok_law_listedX T) hr (pa_cons (pv 3) pa_nil)))
      (pss_cons (ps_if (PW.pt (pw_or (pt_not (pt_val (pcall (ok_law_same T 12) hr (pa_cons (pv 5) (pa_cons (pv 4) pa_nil))))) (pw_or1 (pt_not (pt_val (pcall (ok_law_same T 12) hr (pa_cons (pe_lst (pa_cons (pe_callB (call_len_seqK (K := K) rfl) (by rfl) T.n_len PySem.boot_len (pa_cons (pv 5) pa_nil)) (pa_cons (pe_cmpR (op_eqD hr.units) (pe_callB cr_sortAsc (by rfl) T.n_sorted PyProof.Rows.boot_sorted (pa_cons (pv 5) pa_nil)) (pv 5) (nomark _)) pa_nil))) (pa_cons (pe_lst (pa_cons (pcall (ok_law_count T) hr (pa_cons (pv 3) pa_nil)) (pa_cons pe_bl pa_nil))) pa_nil))))))))
      (pss_one (ps_ret pe_bl))
      pss_nil)
      (pss_cons (ps_set (i := 6) sc_law.nd rfl (.inl rfl) (pe_listKw0 (ok_all_partingsL T) kw_all_partings_0_many hr (pk_cons (pv 3) pk_nil) (by rfl) T.n_list))
      (pss_cons (ps_if (PW.pt (pw_or (pt_not (pt_val (pcall (ok_law_same T 12) hr (pa_cons (pv 6) (pa_cons (pv 4) pa_nil))))) (pw_or1 (pt_not (pt_val (pe_callB (cr_all rfl) (by rfl) T.n_all PyProof.Rows.boot_all (pa_cons (pe_lc (own := [("_law_rows_here", 19)]) (g := gName 19) (tt := tYes) rfl sc_law.nd (pi_list (pv 6)) (blkOk_by (own := [("_law_rows_here", 19)]) (N := n_law) (sc := defScope s_law) (by decide +kernel)) (fun _ _ _ _ _ => (pg_name (i := 19) sc_law.nd rfl (.inl rfl))) (fun _ _ _ _ _ => pts_nil) (fun _ _ _ _ _ => (pcall (ok_law_is_rows T) hr (pa_cons (pv 19) pa_nil)))) pa_nil)))))))
      (pss_one (ps_ret pe_bl))
      pss_nil)
      (pss_cons (ps_par (i := 7) (j := 8) rfl sc_law.nd rfl rfl (by decide) rfl rfl (pa_cons (pcall (ok_law_rows T) hr (pa_cons (pv 1) (pa_cons (pv 3) pa_nil))) (pa_cons (pcall (ok_law_rows T) hr (pa_cons (pv 1) (pa_cons (pv 3) pa_nil))) pa_nil)) rfl)
      (pss_cons (ps_if (PW.pt (pw_or (pt_cmpR (op_neD hr.units) (pe_bm PySem.F.plainAttrs_list PySem.F.slot_list_count PySem.F.type_list_count (mt_countD (u65 hr)) (pv 5) (pa_cons (pv 7) pa_nil)) pe_int (nomark _)) (pw_or1 (pt_cmpR (op_neD hr.units) (pe_bm PySem.F.plainAttrs_list PySem.F.slot_list_count PySem.F.type_list_count (mt_countD (u65 hr)) (pv 5) (pa_cons (pv 8) pa_nil)) pe_int (nomark _)))))
      (pss_one (ps_ret pe_bl))
      pss_nil)
      (pss_cons (ps_par (i := 9) (j := 10) rfl sc_law.nd rfl rfl (by decide) rfl rfl (pa_cons (pcallY (ok_meet_of T) hr (pa_cons (pv 7) (pa_cons (pv 8) pa_nil))) (pa_cons (pcallY (ok_join_of T) hr (pa_cons (pv 7) (pa_cons (pv 8) pa_nil))) pa_nil)) rfl)
      (pss_cons (ps_if (pt_not (pt_val (pcall (ok_law_same T 12) hr (pa_cons (pe_lst (pa_cons (pv 9) (pa_cons (pv 10) (pa_cons (pe_cmpR (op_inD (u65 hr)) (pv 9) (pv 5) rfl) (pa_cons (pe_cmpR (op_inD (u65 hr)) (pv 10) (pv 5) rfl) pa_nil))))) (pa_cons (pe_lst (pa_cons (pcall (ok_law_met T) hr (pa_cons (pv 7) (pa_cons (pv 8) pa_nil))) (pa_cons (pcall (ok_law_joined T) hr (pa_cons (pv 7) (pa_cons (pv 8) pa_nil))) (pa_cons pe_bl (pa_cons pe_bl pa_nil))))) pa_nil)))))
      (pss_one (ps_ret pe_bl))
      pss_nil)
      (pss_cons (ps_set (i := 11) sc_law.nd rfl (.inl rfl) (pcall (ok_law_draw T) hr (pa_cons (pv 1) (pa_cons (pe_callB (call_len_seqK (K := K) rfl) (by rfl) T.n_len PySem.boot_len (pa_cons (pv 5) pa_nil)) pa_nil))))
      (pss_cons (ps_set (i := 12) sc_law.nd rfl (.inl rfl) (pe_ix (ix_listK (K := K) rfl) (pv 5) (pv 11) (fun _ _ => rfl)))
      (pss_cons (ps_set (i := 13) sc_law.nd rfl (.inl rfl) (pe_lst (pa_cons (pcallY (ok_is_within T) hr (pa_cons (pv 12) (pa_cons (pv 7) pa_nil))) (pa_cons (pcallY (ok_is_within T) hr (pa_cons (pv 12) (pa_cons (pv 8) pa_nil))) (pa_cons (pcallY (ok_is_within T) hr (pa_cons (pv 7) (pa_cons (pv 12) pa_nil))) (pa_cons (pcallY (ok_is_within T) hr (pa_cons (pv 8) (pa_cons (pv 12) pa_nil))) pa_nil))))))
      (pss_cons (ps_set (i := 14) sc_law.nd rfl (.inl rfl) (pe_lst (pa_cons (pcall (ok_law_inner T) hr (pa_cons (pv 12) (pa_cons (pv 7) pa_nil))) (pa_cons (pcall (ok_law_inner T) hr (pa_cons (pv 12) (pa_cons (pv 8) pa_nil))) (pa_cons (pcall (ok_law_inner T) hr (pa_cons (pv 7) (pa_cons (pv 12) pa_nil))) (pa_cons (pcall (ok_law_inner T) hr (pa_cons (pv 8) (pa_cons (pv 12) pa_nil))) pa_nil))))))
      (pss_cons (ps_if (pt_not (pt_val (pcall (ok_law_same T 12) hr (pa_cons (pv 13) (pa_cons (pv 14) pa_nil)))))
      (pss_one (ps_ret pe_bl))
      pss_nil)
      (pss_cons (ps_if (PW.pt (pw_or (PW.pt (pw_and (pt_val (pe_ix (ix_listK (K := K) rfl) (pv 13) pe_int (fun _ _ => rfl))) (pw_and (pt_val (pe_ix (ix_listK (K := K) rfl) (pv 13) pe_int (fun _ _ => rfl))) (pw_and1 (pt_not (pt_val (pcallY (ok_is_within T) hr (pa_cons (pv 12) (pa_cons (pv 9) pa_nil))))))))) (pw_or1 (PW.pt (pw_and (pt_val (pe_ix (ix_listK (K := K) rfl) (pv 13) pe_int (fun _ _ => rfl))) (pw_and (pt_val (pe_ix (ix_listK (K := K) rfl) (pv 13) pe_int (fun _ _ => rfl))) (pw_and1 (pt_not (pt_val (pcallY (ok_is_within T) hr (pa_cons (pv 10) (pa_cons (pv 12) pa_nil))))))))))))
      (pss_one (ps_ret pe_bl))
      pss_nil)
      (pss_cons (ps_if (PW.pt (pw_or (pt_cmpR op_notBl (pcall (ok_is_parting T) hr (pa_cons (pv 12) pa_nil)) pe_bl (nomark _)) (pw_or1 (pt_cmpR op_ne (pe_callB (call_len_seqK (K := K) rfl) (by rfl) T.n_len PySem.boot_len (pa_cons (pcall (ok_lots_of T) hr (pa_cons (pv 12) pa_nil)) pa_nil)) (pe_callB (cr_lenSO (w := w) rfl) (by rfl) T.n_len boot_len (pa_cons (pe_callTy (cr_setIK (K := K) (w := w) rfl rfl rfl) (by rfl) T.n_set PyProof.Rows.boot_set (pa_cons (pv 12) pa_nil)) pa_nil)) (nomark _)))))
      (pss_one (ps_ret pe_bl))
      pss_nil)
      (pss_cons (ps_set (i := 18) sc_law.nd rfl (.inr rfl) (pcall (ok_law_odd T) hr (pa_cons (pv 1) (pa_cons (pe_lst (pa_cons pe_int (pa_cons pe_int (pa_cons pe_bl (pa_cons (pe_un un_neg pe_int) (pa_cons pe_int (pa_cons pe_str (pa_cons (pe_tup (pa_cons pe_int pa_nil)) (pa_cons (pe_lst (pa_cons pe_int pa_nil)) (pa_cons pe_int pa_nil)))))))))) pa_nil))))
      (pss_cons (ps_set (i := 15) sc_law.nd rfl (.inl rfl) (pcall (ok_law_is_case T) hr (pa_cons (pv 18) (pa_cons pe_int pa_nil))))
      (pss_cons (ps_set (i := 16) sc_law.nd rfl (.inl rfl) (pe_lst (pa_cons (pe_lamh (T := TT AA) (kk := 10) (ok_law_why3 T) rfl TB rfl (TT_memA AA) (TT_unA T) hr (by decide) (lamS_by (by show lamSB (defScope s_law) _ = true; decide +kernel)) rfl (fun _ _ _ _ _ => rfl) (fun A outer s H E f c' hr => (pe_listPrX (ok_all_partingsL T) hr (takes_of (E := E) rfl rfl rfl rfl) T.kstop (pa_cons (pv 18) pa_nil) (by rfl) T.n_list))) (pa_cons (pe_lamD (T := TT AA) (kk := 10) (a := "_law_a") (ki := _) (z := 0) (ok_law_why3 T) rfl TB rfl (TT_memA AA) (TT_unA T) hr (by decide) (lamN_by (by show lamNB n_law (defScope s_law) _ = true; decide +kernel)) rfl ⟨fun _ _ _ _ _ _ _ => ⟨_, rfl, rfl⟩, rfl⟩ (fun A outer s H E f c' hr => (pcallX (ok_law_listedX T) hr (takes_of (E := E) rfl rfl rfl rfl) (pa_cons (pv 18) pa_nil)))) pa_nil))))
      (pss_cons (ps_set (i := 17) sc_law.nd rfl (.inl rfl) (pe_tup (pa_cons pe_str (pa_cons (pe_tup (pa_cons (pv 18) pa_nil)) pa_nil))))
      (pss_one (ps_if (pt_not (pt_val (pcall (ok_law_same T 12) hr (pa_cons (pv 16) (pa_cons (pe_lst (pa_cons (pe_ifExp (pt_val (pv 15)) (pe_tup (pa_cons pe_str (pa_cons (pe_tup pa_nil) pa_nil))) (pv 17)) (pa_cons (pe_ifExp (pt_val (pv 15)) (pe_tup (pa_cons pe_str (pa_cons (pe_tup pa_nil) pa_nil))) (pv 17)) pa_nil))) pa_nil)))))
      (pss_one (ps_ret pe_bl))
      pss_nil))))))))))))))))))))))))
      (pss_one (ps_ret (pcall (ok_law_same T 12) hr (pa_cons (pe_listPr0 (ok_all_partingsL T) hr (pa_cons pe_int pa_nil) (by rfl) T.n_list) (pa_cons (pe_lst (pa_cons (pe_tup (pa_cons pe_int pa_nil)) pa_nil)) pa_nil))))))), ?_⟩
    refine ⟨_, rfl, a, ns, rfl, hS, fun b H1 hb hA1 => ?_⟩
    refine ⟨_, rfl, by decide, by decide, ?_⟩
    refine for_it walk_range (fun i σ H' => ∃ (y2 y3 y4 y5 y6 y7 y8 y9 y10 y11 y12 y13 y14 y15 y16 y17 y18 y19 : Option V) (G : Hp), σ = [some (.ref a), some (.ref b), y2, y3, y4, y5, y6, y7, y8, y9, y10, y11, y12, y13, y14, y15, y16, y17, y18, y19] ∧ At b G H' ∧ Tabs (TT AA) G) ⟨none, none, none, none, none, none, none, none, none, none, none, none, none, none, none, none, none, none, H, rfl, hA1, hT⟩ (fun _ _ _ _ _ => trivial) (fun i v σ H1 H2 hi hp hy => ?_) (fun σ H' hp => ?_)
    · obtain ⟨y2, y3, y4, y5, y6, y7, y8, y9, y10, y11, y12, y13, y14, y15, y16, y17, y18, y19, G, rfl, hA, hTG⟩ := hp
      obtain ⟨rfl, rfl⟩ := hy
      refine ⟨_, rfl, by show 6 ≤ sizeLine; decide, fun pl npl => ⟨b, .ref pl, _, _, rfl, hA.new npl, .inl ⟨pl, rfl, sq_of upd_same⟩, by show 0 < 6; decide, by show 6 < 1073741824; decide, fun vn H2 hvn hA2 => ?_⟩⟩
      have hA2 := hA2.weak (Ex.new (hA.nh npl))
      obtain ⟨n, rfl, h1, h6⟩ := size8 hvn
      obtain ⟨ds, dd, dw, de⟩ := rowsD_shape n h6
      -- due, told
      refine ⟨_, rfl, n, rfl, h1, h6, fun rd ud H3 e3 hrd hwd => ?_⟩
      refine ⟨_, rfl, .int n, _, rfl, .int n, .inr ⟨n, rfl, h1, h6, fun rt ut H4 e4 nrt hrt hwt => ?_⟩⟩
      have rpt : Rep H4 (.ref rt) (rowsD n) := .lst hrt hwt.reps
      have rpd : Rep H4 (.ref rd) (rowsD n) := Rep.mono e4 (.lst hrd hwd.reps)
      refine ⟨_, rfl, _, rfl, .ref rt, .ref rd, _, rfl, rpt, rpd, dd, dw, fun H5 e5 => ⟨_, rfl, iteF ?_⟩⟩
      obtain ⟨au, ap⟩ := (hwt.monoR e5).asc h6
      refine ⟨_, rfl, rt, _, rfl, .inl (sq_of (e5 _ _ hrt)), _, rfl, rt, ut, nums H5, n, 7, rfl, sq_of (e5 _ _ hrt), h1, au, ap, fun ps nps => ⟨_, rfl, _, _, .lst (sq_of upd_same) (Reps.dp ((hwt.monoR (e5.trans (Ex.new nps))).reps)), (Rep.mono (e5.trans (Ex.new nps)) rpt).dp, ds, ds, by show 2 ≤ sizeLine; decide, fun L1 nL1 => ?_⟩⟩
      refine ⟨_, rfl, n, rfl, h1, h6, fun H6 e6 => ⟨by show 2 ≤ sizeLine; decide, fun L2 nL2 => ?_⟩⟩
      refine ⟨.ref L1, .ref L2, .list [.int ((rowsN n).length : Int), .bool true], rfl, ?_, ?_, by show 1 < 12; decide, by show 1 + _ ≤ 90000; decide, fun H7 e7 => ⟨_, rfl, iteF ?_⟩⟩
      · exact .lst (Ex.new nL2 _ _ (e6 _ _ upd_same)) (by show Reps _ [_, V.bl (PyData.eqv (rowsD n) (rowsD n))] _; rw [de, hwt.1]; exact .cons (.int _) (.cons (.bl _) .nil))
      · exact .lst upd_same (.cons (.int _) (.cons (.bl _) .nil))
      have x47 := e5.trans ((Ex.new nps).trans ((Ex.new nL1).trans (e6.trans ((Ex.new nL2).trans e7))))
      refine tNext_at (σ' := [_, _, _, _, _, _, _, _, _, _, _, _, _, _, _, _, _, _, _, _]) rfl ?_
      refine ⟨_, rfl, rfl, .int n, _, rfl, .int n, .inr ⟨n, rfl, h1, h6, fun us H8 e8 hw8 => fun ra nra => ?_⟩⟩
      refine ⟨_, rfl, _, rfl, .ref ra, .ref rd, _, rfl, .lst upd_same (hw8.monoR (Ex.new nra)).reps, Rep.mono ((x47.trans e8).trans (Ex.new nra)) rpd, dd, dw, fun H9 e9 => ⟨_, rfl, iteF ?_⟩⟩
      have hra9 := e9 _ _ (upd_same (H := H8) (a := ra) (o := HO.lst us))
      have hw9 := hw8.monoR ((Ex.new nra).trans e9)
      have x49 := (x47.trans e8).trans ((Ex.new nra).trans e9)
      refine ⟨_, rfl, ra, rfl, ⟨us, sq_of hra9⟩, fun D hD => lc_it (walk_list (xs := us)) (fun i H' => Ex H9 H' ∧ H' D = some (.lst (List.replicate i (V.bl true)))) ⟨Ex.new hD, upd_same⟩ (fun _ _ _ hp => sq_of (hp.1 _ _ hra9)) (fun i v H10 H11 hi hp hy => ?_) (fun H10 hp => ?_)⟩
      · obtain ⟨x10, hD10⟩ := hp
        obtain ⟨rfl, hu⟩ := hy
        obtain ⟨t, c, rfl, hc, ht⟩ := (hw9.monoR x10).2 i v hu
        have pc := rowsN_isP h6 (List.mem_of_getElem? hc)
        refine ⟨rfl, _, rfl, .ref t, tupD c, rfl, rep_row ht, okV_nats pc (by omega), ?_⟩
        rw [show partD (tupD c) = true from partD_of pc h1]
        have l0 := rowsN_le n h6
        have l1 := hw9.1
        refine ⟨List.replicate i (V.bl true), hD10, sz_of (by rw [List.length_replicate]; omega), x10.mut hD, ?_⟩
        rw [upd_same, List.replicate_succ']
      refine ⟨D, List.replicate us.length true, rfl, sq_of (by rw [hp.2, List.map_replicate]), ?_⟩
      rw [List.all_replicate]
      refine ⟨true, by simp, iteF ?_⟩
      obtain ⟨x10, _⟩ := hp
      obtain ⟨G10, hA10, xG10, keep10, new10⟩ := hA2.allG (e3.trans (e4.trans (x49.trans x10)))
      have hT10 := hTG.ext xG10
      have hrt10 : G10 rt = some (.lst ut) := new10 _ _ (fresh_back e3 nrt) ((x49.trans x10) _ _ hrt)
      have hw10 : Rws G10 ut (rowsN n) := (hwt.monoR (x49.trans x10)).inG keep10
      refine tNext_at (σ' := [_, _, _, _, _, _, _, _, _, _, _, _, _, _, _, _, _, _, _, _]) rfl ?_
      -- p, q
      refine ⟨_, rfl, _, rfl, b, n, G10, rfl, hA10, h1, by omega, fun p rp G11 H11 hp xG11 hrp hA11 => ⟨_, rfl, _, rfl, b, n, G11, rfl, hA11, h1, by omega, fun q rq G12 H12 hq xG12 hrq hA12 => ?_⟩⟩
      have mp := mem_rowsN hp
      have mq := mem_rowsN hq
      have hrt12 := (xG11.trans xG12) _ _ hrt10
      have hw12 := hw10.monoR (xG11.trans xG12)
      have dt : ∀ {Hx : Hp}, Ex G12 Hx → Dp K Hx (.ref rt) (.list ((rowsN n).map tupD)) := fun e => (Rep.lst (e _ _ hrt12) ((hw12.monoR e).reps)).dp
      have ss : ∀ {z : List Nat}, z ∈ rowsN n → SeqAt.shaped (tupD z) = true := fun hz => (row_shape n h6 _ hz).1
      have exA := hA12.ex
      refine ⟨_, _, rfl, _, rfl, .inl ⟨rfl, _, sq_of (exA _ _ hrt12)⟩, _, rfl, rt, _, tupD p, _, rfl, rfl, dt exA, (rep_row (exA _ _ (xG12 _ _ hrp))).dp, ds, ss mp, ?_⟩
      rw [cnt_one h6 mp]
      refine ⟨.int 1, .int 1, (Rep.int _).dp, (Rep.int _).dp, rfl, rfl, _, rfl, iteF ?_⟩
      refine ⟨_, rfl, .inl ⟨rfl, _, sq_of (exA _ _ hrt12)⟩, _, rfl, rt, _, tupD q, _, rfl, rfl, dt exA, (rep_row (exA _ _ hrq)).dp, ds, ss mq, ?_⟩
      rw [cnt_one h6 mq]
      refine ⟨.int 1, .int 1, (Rep.int _).dp, (Rep.int _).dp, rfl, rfl, _, rfl, iteF ?_⟩
      have okp := okV_nats hp (show n ≤ 4096 by omega)
      have okq := okV_nats hq (show n ≤ 4096 by omega)
      refine tNext_at (σ' := [_, _, _, _, _, _, _, _, _, _, _, _, _, _, _, _, _, _, _, _]) rfl ?_
      refine ⟨_, rfl, _, rfl, .ref rp, tupD p, .ref rq, tupD q, rfl, rep_row (exA _ _ (xG12 _ _ hrp)), okp, rep_row (exA _ _ hrq), okq, .inl ⟨n, p, q, rfl, rfl, h1, by omega, hp, hq, fun rm H13 e13 nrm hrm => ?_⟩⟩
      refine ⟨_, rfl, _, rfl, .ref rp, tupD p, .ref rq, tupD q, rfl, rep_row (e13 _ _ (exA _ _ (xG12 _ _ hrp))), okp, rep_row (e13 _ _ (exA _ _ hrq)), okq, .inl ⟨n, p, q, rfl, rfl, h1, by omega, hp, hq, fun rj H14 e14 nrj hrj => ?_⟩⟩
      have x14 := exA.trans (e13.trans e14)
      have im := met_isP (n := n) (p := p) (q := q)
      have ij := join_isP hp hq
      have mm := mem_rowsN im
      have mj := mem_rowsN ij
      refine ⟨_, _, rfl, _, rfl, _, rfl, _, rfl, _, rfl, tupD _, _, (rep_row (e14 _ _ hrm)).dp, dt x14, ss mm, ds, ?_⟩
      rw [any_one h6 mm]
      refine ⟨_, rfl, _, rfl, tupD _, _, (rep_row hrj).dp, dt x14, ss mj, ds, ?_⟩
      rw [any_one h6 mj]
      refine ⟨by show 4 ≤ sizeLine; decide, fun L3 nL3 => ?_⟩
      have x15 := x14.trans (Ex.new (o := .lst [.ref rm, .ref rj, .bl true, .bl true]) nL3)
      refine ⟨_, rfl, _, rfl, n, rp, rq, p, q, rfl, st_of (x15 _ _ (xG12 _ _ hrp)), st_of (x15 _ _ hrq), hp, hq, h1, by omega, fun rm2 H16 e16 nrm2 hrm2 => ?_⟩
      refine ⟨_, rfl, _, rfl, n, rp, rq, p, q, rfl, by omega, st_of (e16 _ _ (x15 _ _ (xG12 _ _ hrp))), hp, st_of (e16 _ _ (x15 _ _ hrq)), hq, fun rj2 H17 e17 nrj2 hrj2 => ⟨by show 4 ≤ sizeLine; decide, fun L4 nL4 => ?_⟩⟩
      have okm := okV_nats im (show n ≤ 4096 by omega)
      have okj := okV_nats ij (show n ≤ 4096 by omega)
      have x18 := x15.trans (e16.trans (e17.trans (Ex.new (o := .lst [.ref rm2, .ref rj2, .bl true, .bl true]) nL4)))
      refine ⟨.ref L3, .ref L4, .list [tupD (metN n [p, q]), tupD (joinN n p q), .bool true, .bool true], rfl, ?_, ?_, ?_, ?_, fun H18 e18 => ⟨_, rfl, iteF ?_⟩⟩
      · have xx := e16.trans (e17.trans (Ex.new (o := .lst [.ref rm2, .ref rj2, .bl true, .bl true]) nL4))
        exact .lst (xx _ _ upd_same) (.cons (rep_row (xx _ _ (Ex.new nL3 _ _ (e14 _ _ hrm)))) (.cons (rep_row (xx _ _ (Ex.new nL3 _ _ hrj))) (.cons (.bl _) (.cons (.bl _) .nil))))
      · exact .lst upd_same (.cons (rep_row (Ex.new nL4 _ _ (e17 _ _ hrm2))) (.cons (rep_row (Ex.new nL4 _ _ hrj2)) (.cons (.bl _) (.cons (.bl _) .nil))))
      · have dl : PyData.depthAll [tupD (metN n [p, q]), tupD (joinN n p q), .bool true, .bool true] ≤ 5 := depthAll_of fun z hz => by
          simp only [List.mem_cons, List.not_mem_nil, or_false] at hz
          rcases hz with rfl | rfl | rfl | rfl
          · exact Nat.le_of_lt okm.1
          · exact Nat.le_of_lt okj.1
          · exact Nat.zero_le _
          · exact Nat.zero_le _
        show PyData.depthAll _ + 1 < 12
        omega
      · have a1 : wid (tupD (metN n [p, q])) ≤ 4096 := okm.2.1
        have a2 : wid (tupD (joinN n p q)) ≤ 4096 := okj.2.1
        show max 4 (max (wid (tupD (metN n [p, q]))) (max (wid (tupD (joinN n p q))) (max 0 (max 0 0)))) ≤ 90000
        omega
      have xr := (Ex.new (o := .lst [.ref rm, .ref rj, .bl true, .bl true]) nL3).trans (e16.trans (e17.trans ((Ex.new (o := .lst [.ref rm2, .ref rj2, .bl true, .bl true]) nL4).trans e18)))
      obtain ⟨G18, hA18, xG18, keep18, new18⟩ := hA12.allG ((e13.trans e14).trans xr)
      have hT18 := hT10.ext ((xG11.trans xG12).trans xG18)
      have hrt18 := xG18 _ _ hrt12
      have hrp18 := xG18 _ _ (xG12 _ _ hrp)
      have hrq18 := xG18 _ _ hrq
      have hrm18 := new18 _ _ nrm ((e14.trans xr) _ _ hrm)
      have hrj18 := new18 _ _ (fresh_back e13 nrj) (xr _ _ hrj)
      have hw18 := hw12.monoR xG18
      have l0 := rowsN_le n h6
      have lp := List.length_pos_of_mem mp
      have l1 := hw18.1
      refine tNext_at (σ' := [_, _, _, _, _, _, _, _, _, _, _, _, _, _, _, _, _, _, _, _]) rfl ?_
      refine ⟨_, rfl, _, rfl, rt, ut, rfl, .inl (sq_of (hA18.ex _ _ hrt18)), b, _, G18, rfl, hA18, by omega, by omega, fun d H19 d0 dn hA19 => ?_⟩
      obtain ⟨k, rfl⟩ := Int.eq_ofNat_of_zero_le d0
      have hk : k < ut.length := by omega
      obtain ⟨u, hu⟩ : ∃ u, ut[k]? = some u := ⟨_, List.getElem?_eq_getElem hk⟩
      obtain ⟨t, c, rfl, hc, ht18⟩ := hw18.2 k u hu
      have mc := List.mem_of_getElem? hc
      have ic := rowsN_isP h6 mc
      have okc := okV_nats ic (show n ≤ 4096 by omega)
      have ex19 := hA19.ex
      refine ⟨_, rfl, _, rfl, rt, ut, _, _, rfl, rfl, sq_of (ex19 _ _ hrt18), atI_nat hu, ?_⟩
      refine ⟨_, rfl, _, rfl, .ref _, tupD c, .ref _, tupD p, rfl, rep_row (ex19 _ _ ht18), okc, rep_row (ex19 _ _ hrp18), okp, .inl ⟨n, c, p, rfl, rfl, h1, by omega, ic, hp, fun K1 k1 => ⟨_, rfl, _, rfl, .ref _, tupD c, .ref _, tupD q, rfl, rep_row ((ex19.trans k1) _ _ ht18), okc, rep_row ((ex19.trans k1) _ _ hrq18), okq, .inl ⟨n, c, q, rfl, rfl, h1, by omega, ic, hq, fun K2 k2 => ?_⟩⟩⟩⟩
      have y2 := ex19.trans (k1.trans k2)
      refine ⟨_, rfl, _, rfl, .ref _, tupD p, .ref _, tupD c, rfl, rep_row (y2 _ _ hrp18), okp, rep_row (y2 _ _ ht18), okc, .inl ⟨n, p, c, rfl, rfl, h1, by omega, hp, ic, fun K3 k3 => ⟨_, rfl, _, rfl, .ref _, tupD q, .ref _, tupD c, rfl, rep_row ((y2.trans k3) _ _ hrq18), okq, rep_row ((y2.trans k3) _ _ ht18), okc, .inl ⟨n, q, c, rfl, rfl, h1, by omega, hq, ic, fun K4 k4 => ⟨by show 4 ≤ sizeLine; decide, fun W1 nW1 => ?_⟩⟩⟩⟩⟩
      have y4 := (y2.trans (k3.trans k4)).trans (Ex.new (o := .lst [.bl (inn c p), .bl (inn c q), .bl (inn p c), .bl (inn q c)]) nW1)
      refine ⟨_, rfl, _, rfl, n, _, _, c, p, rfl, by omega, st_of (y4 _ _ ht18), ic, st_of (y4 _ _ hrp18), hp, fun K5 k5 => ⟨_, rfl, _, rfl, n, _, _, c, q, rfl, by omega, st_of ((y4.trans k5) _ _ ht18), ic, st_of ((y4.trans k5) _ _ hrq18), hq, fun K6 k6 => ?_⟩⟩
      have y6 := y4.trans (k5.trans k6)
      refine ⟨_, rfl, _, rfl, n, _, _, p, c, rfl, by omega, st_of (y6 _ _ hrp18), hp, st_of (y6 _ _ ht18), ic, fun K7 k7 => ⟨_, rfl, _, rfl, n, _, _, q, c, rfl, by omega, st_of ((y6.trans k7) _ _ hrq18), hq, st_of ((y6.trans k7) _ _ ht18), ic, fun K8 k8 => ⟨by show 4 ≤ sizeLine; decide, fun W2 nW2 => ?_⟩⟩⟩
      have w8 := (k5.trans (k6.trans (k7.trans k8))).trans (Ex.new (o := .lst [.bl (inn c p), .bl (inn c q), .bl (inn p c), .bl (inn q c)]) nW2)
      refine ⟨_, rfl, _, rfl, .ref W1, .ref W2, .list [.bool (inn c p), .bool (inn c q), .bool (inn p c), .bool (inn q c)], rfl, .lst (w8 _ _ upd_same) (.cons (.bl _) (.cons (.bl _) (.cons (.bl _) (.cons (.bl _) .nil)))), .lst upd_same (.cons (.bl _) (.cons (.bl _) (.cons (.bl _) (.cons (.bl _) .nil)))), by show 1 < 12; decide, by show 4 ≤ 90000; decide, fun H20 e20 => ⟨_, rfl, iteF ?_⟩⟩
      have hW1 := (w8.trans e20) _ _ (upd_same (H := K4) (a := W1) (o := .lst [.bl (inn c p), .bl (inn c q), .bl (inn p c), .bl (inn q c)]))
      have y20 := y4.trans (w8.trans e20)
      refine tNext_at (σ' := [_, _, _, _, _, _, _, _, _, _, _, _, _, _, _, _, _, _, _, _]) rfl ?_
      refine or_and4 (A := inn c p) (B := inn c q) (A2 := inn p c) (B2 := inn q c)
        (fun Q' H' e q' => ⟨_, rfl, W1, _, 0, _, rfl, rfl, sq_of (e _ _ hW1), rfl, _, rfl, q'⟩)
        (fun Q' H' e q' => ⟨_, rfl, W1, _, 1, _, rfl, rfl, sq_of (e _ _ hW1), rfl, _, rfl, q'⟩)
        (fun ha hb H' Q' e q' => ⟨_, rfl, _, rfl, .ref _, tupD c, .ref _, tupD _, rfl, rep_row ((y20.trans e) _ _ ht18), okc, rep_row ((y20.trans e) _ _ hrm18), okm, .inl ⟨n, c, _, rfl, rfl, h1, by omega, ic, im, fun H'' e' => ⟨_, rfl, ?_⟩⟩⟩)
        (fun Q' H' e q' => ⟨_, rfl, W1, _, 2, _, rfl, rfl, sq_of (e _ _ hW1), rfl, _, rfl, q'⟩)
        (fun Q' H' e q' => ⟨_, rfl, W1, _, 3, _, rfl, rfl, sq_of (e _ _ hW1), rfl, _, rfl, q'⟩)
        (fun ha hb H' Q' e q' => ⟨_, rfl, _, rfl, .ref _, tupD _, .ref _, tupD c, rfl, rep_row ((y20.trans e) _ _ hrj18), okj, rep_row ((y20.trans e) _ _ ht18), okc, .inl ⟨n, _, c, rfl, rfl, h1, by omega, ij, ic, fun H'' e' => ⟨_, rfl, ?_⟩⟩⟩)
        (fun H21 e21 => ?_)
      · rw [inn_met ic, ha, hb]
        exact q' H'' e'
      · rw [inn_join hp hq, ha, hb]
        exact q' H'' e'
      have y21 := y20.trans e21
      -- is_parting, lots
      refine ⟨_, rfl, .ref t, tupD c, rfl, rep_row (y21 _ _ ht18), fun dz hz => ?_, fun H22 e22 => ?_⟩
      · obtain rfl := PyData.tuple.inj hz
        refine ⟨?_, shaped_ndats⟩
        unfold ndats
        rw [List.length_map, ic.len]
        omega
      rw [show partD (tupD c) = true from partD_of ic h1]
      refine ⟨true, true, rfl, rfl, _, rfl, iteF ?_⟩
      have y22 := y21.trans e22
      refine ⟨_, rfl, n, t, c, rfl, st_of (y22 _ _ ht18), ic, by omega, fun rl ul H23 e23 nrl hrl hwl => ⟨rl, ul, rfl, .inl (sq_of hrl), _, rfl, t, c.map fun x : Nat => (x : Int), rfl, .inr (st_of ?_), ?_, fun S kc kl kx nS => ⟨S, _, kc, rfl, upd_same, fun hL => ?_⟩⟩⟩
      · rw [(y22.trans e23) _ _ ht18]
        unfold nvs
        rw [List.map_map]
        rfl
      · rw [List.length_map, ic.len]
        omega
      have hlen : kc = ul.length := by
        rw [hL ((asc n c).map fun x : Nat => (x : Int)) ?_ fun k => ?_, List.length_map, hwl.1]
        · exact (row_shape n h6 c mc).2.symm
        · refine List.Pairwise.map _ ?_ asc_inc
          intro x y hxy
          omega
        · have rin := (rowsN_ok mc).2
          constructor
          · intro hk
            obtain ⟨x, hx, rfl⟩ := List.mem_map.mp hk
            exact decide_eq_true (List.mem_map.mpr ⟨x, (mem_asc.mp hx).2.2, rfl⟩)
          · intro hk
            obtain ⟨x, hx, rfl⟩ := List.mem_map.mp (of_decide_eq_true hk)
            exact List.mem_map.mpr ⟨x, mem_asc.mpr ⟨(rin x hx).1, (rin x hx).2, hx⟩, rfl⟩
      subst hlen
      refine ⟨rfl, _, rfl, ?_⟩
      refine iteF2 (by simp) ?_
      obtain ⟨G23, hA23, xG23, keep23, new23⟩ := hA19.allG ((((k1.trans k2).trans (k3.trans k4)).trans (Ex.new (o := .lst [.bl (inn c p), .bl (inn c q), .bl (inn p c), .bl (inn q c)]) nW1)).trans ((w8.trans e20).trans (e21.trans (e22.trans (e23.trans (Ex.new (o := SetO w S (fun j => decide (j ∈ c.map fun x : Nat => (x : Int))) ul.length) nS))))))
      have hT23 := hT18.ext xG23
      refine tNext_at (σ' := [_, _, _, _, _, _, _, _, _, _, _, _, _, _, _, _, _, _, _, _]) rfl ?_
      refine ⟨_, rfl, 3, rfl, by show 1 ≤ sizeLine; decide, fun t1 nt1 => ⟨by show 1 ≤ sizeLine; decide, fun t2 nt2 => ⟨by show 9 ≤ sizeLine; decide, fun t3 nt3 => ?_⟩⟩⟩
      have g1 := Ex.new (o := .tup [.int 3]) (hA23.nh nt1)
      have b1 := hA23.new (o := .tup [.int 3]) nt1
      have g2 := Ex.new (o := .lst [.int 3]) (b1.nh nt2)
      have b2 := b1.new (o := .lst [.int 3]) nt2
      have g3 := Ex.new (o := .lst [.int 0, .int 7, .bl true, .int (-3), .int 2400, .str (Str.ofString "3"), .ref t1, .ref t2, .int 2]) (b2.nh nt3)
      have b3 := b2.new (o := .lst [.int 0, .int 7, .bl true, .int (-3), .int 2400, .str (Str.ofString "3"), .ref t1, .ref t2, .int 2]) nt3
      refine ⟨b, t3, _, _, rfl, b3, upd_same, by show 9 ≤ 20; decide, fun x hx => ?_, fun v d G24 H24 xG24 hA24 rv okv => ?_⟩
      · simp only [List.mem_cons, List.not_mem_nil, or_false] at hx
        rcases hx with rfl | rfl | rfl | rfl | rfl | rfl | rfl | rfl | rfl
        · exact ⟨_, .int _, by decide, by decide, rfl⟩
        · exact ⟨_, .int _, by decide, by decide, rfl⟩
        · exact ⟨_, .bl _, by decide, by decide, rfl⟩
        · exact ⟨_, .int _, by decide, by decide, rfl⟩
        · exact ⟨_, .int _, by decide, by decide, rfl⟩
        · exact ⟨_, .str _, by show 0 < 5; decide, by show 0 ≤ 4096; decide, by decide +kernel⟩
        · exact ⟨.tuple [.int 3], .tup (g3 _ _ (g2 _ _ upd_same)) (.cons (.int _) .nil), by decide, by decide, rfl⟩
        · exact ⟨.list [.int 3], .lst (g3 _ _ upd_same) (.cons (.int _) .nil), by decide, by decide, rfl⟩
        · exact ⟨_, .int _, by decide, by decide, rfl⟩
      have hT24 := hT23.ext (g1.trans (g2.trans (g3.trans xG24)))
      have rvH := Rep.mono hA24.ex rv
      refine ⟨_, rfl, v, d, 6, rfl, rvH, ?_⟩
      refine ⟨hT24.ext hA24.ex, fun Ha na ta => why8 (v := v) (d := d) (fun E1 Q1 h1 h2 => ⟨_, rfl, v, d, rfl, rvH.exN na, ?_⟩) (rvH.exN na) fun w1 Hb eb D1 => ?_⟩
      · cases hg : numD d 1 6 with
        | false => exact .inl ⟨rfl, fun dd H' nd e hx => ⟨rfl, h2 hg dd H' nd e hx⟩⟩
        | true =>
          obtain ⟨m, hm, m1, m6⟩ := num_int rv hg
          exact .inr ⟨m, hm, m1, m6, fun us H' e _ p np => h1 hg _ _ (e.trans (Ex.new np))⟩
      have nb := na.trans (ExtN.of eb)
      refine ⟨ta.ext eb, fun Hc nc tc => why8 (v := v) (d := d) (fun E1 Q1 h1 h2 => ⟨_, rfl, v, d, rfl, rvH.exN (nb.trans nc), ?_⟩) (rvH.exN (nb.trans nc)) fun w2 Hd ed D2 => ?_⟩
      · cases hg : numD d 1 6 with
        | false => exact .inl ⟨rfl, fun dd H' nd e hx => h2 hg dd H' nd e hx⟩
        | true =>
          obtain ⟨m, hm, m1, m6⟩ := num_int rv hg
          exact .inr ⟨m, hm, m1, m6, fun r us H' e _ _ _ => h1 hg _ _ e⟩
      have nd := nb.trans (nc.trans (ExtN.of ed))
      refine ⟨by show 2 ≤ sizeLine; decide, fun W nW => ?_⟩
      have f1 := Ex.new (o := .lst [.ref w1, .ref w2]) nW
      have D1 := D1.exN ((nc.trans (ExtN.of ed)).trans (ExtN.of f1))
      have D2 := D2.exN (ExtN.of f1)
      have rv5 := (rvH.exN nd).exN (ExtN.of f1)
      have hWW := upd_same (H := Hd) (a := W) (o := .lst [.ref w1, .ref w2])
      have nw := nd.trans (ExtN.of f1)
      have tw := (tc.ext ed).ext f1
      refine ⟨_, rfl, by show 1 ≤ sizeLine; decide, fun e0 ne0 => ⟨by show 2 ≤ sizeLine; decide, fun rf nrf => ?_⟩⟩
      have f2 := Ex.new (o := .tup [v]) ne0
      have f3 := Ex.new (o := .tup [.str (Str.ofString "InvalidNumber"), .ref e0]) nrf
      have hrf : Rep (upd (upd (upd Hd W (.lst [.ref w1, .ref w2])) e0 (.tup [v])) rf (.tup [.str (Str.ofString "InvalidNumber"), .ref e0])) (.ref rf) (.tuple [.str "InvalidNumber", .tuple [d]]) := .tup upd_same (.cons (.str _) (.cons (.tup (f3 _ _ upd_same) (.cons (Rep.mono (f2.trans f3) rv5) .nil)) .nil))
      have f23 := f2.trans f3
      have last : ∀ {Hx : Hp}, Ex (upd (upd (upd Hd W (.lst [.ref w1, .ref w2])) e0 (.tup [v])) rf (.tup [.str (Str.ofString "InvalidNumber"), .ref e0])) Hx → ∃ G', At b G' Hx ∧ Tabs (TT AA) G' := fun {Hx} ex => by
        obtain ⟨G', k1, _, k2, _⟩ := hA24.extN (nw.trans (ExtN.of (f23.trans ex))) (tw.ext (f23.trans ex))
        exact ⟨G', k1, k2⟩
      have ww : ∀ {Hx : Hp}, Ex (upd (upd (upd Hd W (.lst [.ref w1, .ref w2])) e0 (.tup [v])) rf (.tup [.str (Str.ofString "InvalidNumber"), .ref e0])) Hx → Rep Hx (.ref W) (.list [whyD d, whyD d]) := fun ex => .lst (ex _ _ (f23 _ _ hWW)) (.cons (Rep.mono (f23.trans ex) D1) (.cons (Rep.mono (f23.trans ex) D2) .nil))
      have dW := whyD_small okv.1 okv.2.1
      rcases (Bool.eq_false_or_eq_true (numD d 1 6)).symm with hg | hg
      · have wd : whyD d = .tuple [.str "InvalidNumber", .tuple [d]] := by
          unfold whyD
          rw [if_neg (by rw [hg]; simp)]
        refine ⟨_, rfl, _, rfl, _, rfl, iteF2 hg ⟨_, rfl, _, rfl, _, rfl, iteF2 hg ⟨_, rfl, by show 2 ≤ sizeLine; decide, fun L5 nL5 => ?_⟩⟩⟩
        have f5 := Ex.new (o := .lst [.ref rf, .ref rf]) nL5
        refine ⟨.ref W, .ref L5, .list [whyD d, whyD d], rfl, ww f5, .lst upd_same ?_, dW.1, dW.2, fun H' e => ⟨_, rfl, iteF ?_⟩⟩
        · rw [wd]
          exact .cons (Rep.mono f5 hrf) (.cons (Rep.mono f5 hrf) .nil)
        · obtain ⟨G', k1, k2⟩ := last (f5.trans e)
          exact ⟨_, _, _, _, _, _, _, _, _, _, _, _, _, _, _, _, _, _, G', rfl, k1, k2⟩
      · have wd : whyD d = .tuple [.str "", .tuple []] := by
          unfold whyD
          rw [if_pos hg]
        refine ⟨_, rfl, _, rfl, _, rfl, iteT2 hg ⟨by show 0 ≤ sizeLine; decide, fun c0 nc0 => ⟨by show 2 ≤ sizeLine; decide, fun c1 nc1 => ⟨_, rfl, _, rfl, iteT2 hg ⟨by show 0 ≤ sizeLine; decide, fun c2 nc2 => ⟨by show 2 ≤ sizeLine; decide, fun c3 nc3 => ⟨by show 2 ≤ sizeLine; decide, fun L5 nL5 => ?_⟩⟩⟩⟩⟩⟩⟩
        have z1 := Ex.new (o := .tup []) nc0
        have z2 := Ex.new (o := .tup [.str (Str.ofString ""), .ref c0]) nc1
        have z3 := Ex.new (o := .tup []) nc2
        have z4 := Ex.new (o := .tup [.str (Str.ofString ""), .ref c2]) nc3
        have z5 := Ex.new (o := .lst [.ref c1, .ref c3]) nL5
        have f5 := z1.trans (z2.trans (z3.trans (z4.trans z5)))
        refine ⟨.ref W, .ref L5, .list [whyD d, whyD d], rfl, ww f5, .lst upd_same ?_, dW.1, dW.2, fun H' e => ⟨_, rfl, iteF ?_⟩⟩
        · rw [wd]
          have z35 := z3.trans (z4.trans z5)
          exact .cons (.tup (z35 _ _ upd_same) (.cons (.str _) (.cons (.tup ((z2.trans z35) _ _ upd_same) .nil) .nil))) (.cons (.tup (z5 _ _ upd_same) (.cons (.str _) (.cons (.tup ((z4.trans z5) _ _ upd_same) .nil) .nil))) .nil)
        · obtain ⟨G', k1, k2⟩ := last (f5.trans e)
          exact ⟨_, _, _, _, _, _, _, _, _, _, _, _, _, _, _, _, _, _, G', rfl, k1, k2⟩
    · refine ⟨.int 1, .int 1, rfl, .int 1, .inr ⟨1, rfl, by decide, by decide, fun us H2 e2 hw z nz => ⟨by show 1 ≤ sizeLine; decide, fun t nt => ⟨by show 1 ≤ sizeLine; decide, fun l nl => ?_⟩⟩⟩⟩
      have z1 := Ex.new (o := .lst us) nz
      have z2 := Ex.new (o := .tup [.int 1]) nt
      have z3 := Ex.new (o := .lst [.ref t]) nl
      have hr1 : rowsD 1 = .list [.tuple [.int 1]] := rfl
      obtain ⟨_, d1, d2, _⟩ := rowsD_shape 1 (by decide)
      refine ⟨.ref z, .ref l, rowsD 1, rfl, .lst ((z2.trans z3) _ _ upd_same) ((hw.monoR (z1.trans (z2.trans z3))).reps), ?_, d1, d2, fun H' _ => q H'⟩
      rw [hr1]
      exact .lst upd_same (.cons (.tup (z3 _ _ upd_same) (.cons (.int _) .nil)) .nil)
end
end Eyes

set_option Elab.async false
set_option linter.all false
set_option maxRecDepth 100000
namespace Eyes
open PySem PySem.Spec PyProof.Rows L2
set_option maxHeartbeats 0 in
theorem txt_mk {K : PySem.W.Frag} {h : Heap} {mg : Str → Option Value} (X : K.In h) (G : h.Ns mainGlobals mg) {z_InvalidName : Addr} {z_InvalidNumber : Addr} {z_InvalidText : Addr} {z_InvalidCircle : Addr} {z_InvalidTie : Addr} {z_InvalidParting : Addr} {z_InvalidCase : Addr} {z_TooMany : Addr} {z_cdA : Addr} {z_tbA : Addr} {t19 : Tok} {f20 : Addr} {oc20 : Value} {od20 : Option Addr} {an20 : Option Addr} {sl20 : Array (Option Value)} {kV20 : Value} {dc20 : Value} {pm20 : Value} {cd20 : Value} {ct20 : Value} {nm20 : Str} {qn20 : Str} {nn20 : Addr} {bs20 : List Value} {bm20 : List Value} {sb20 : List Value} {sn20 : List Str} {ab20 : Bool} {co20 : Option Bool} {dd20 : Option Addr} {k020 : Option Value} {k120 : Option Value} {k220 : Option Value} {k320 : Option Value} {k520 : Option Value} {f22 : Addr} {oc22 : Value} {od22 : Option Addr} {an22 : Option Addr} {sl22 : Array (Option Value)} {kV22 : Value} {dc22 : Value} {pm22 : Value} {cd22 : Value} {ct22 : Value} {nm22 : Str} {qn22 : Str} {nn22 : Addr} {bs22 : List Value} {bm22 : List Value} {sb22 : List Value} {sn22 : List Str} {ab22 : Bool} {co22 : Option Bool} {dd22 : Option Addr} {k022 : Option Value} {k122 : Option Value} {k222 : Option Value} {k322 : Option Value} {k522 : Option Value} {f24 : Addr} {oc24 : Value} {od24 : Option Addr} {an24 : Option Addr} {sl24 : Array (Option Value)} {kV24 : Value} {dc24 : Value} {pm24 : Value} {cd24 : Value} {ct24 : Value} {nm24 : Str} {qn24 : Str} {nn24 : Addr} {bs24 : List Value} {bm24 : List Value} {sb24 : List Value} {sn24 : List Str} {ab24 : Bool} {co24 : Option Bool} {dd24 : Option Addr} {k024 : Option Value} {k124 : Option Value} {k224 : Option Value} {k324 : Option Value} {k524 : Option Value} {f26 : Addr} {oc26 : Value} {od26 : Option Addr} {an26 : Option Addr} {sl26 : Array (Option Value)} {kV26 : Value} {dc26 : Value} {pm26 : Value} {cd26 : Value} {ct26 : Value} {nm26 : Str} {qn26 : Str} {nn26 : Addr} {bs26 : List Value} {bm26 : List Value} {sb26 : List Value} {sn26 : List Str} {ab26 : Bool} {co26 : Option Bool} {dd26 : Option Addr} {k026 : Option Value} {k126 : Option Value} {k226 : Option Value} {k326 : Option Value} {k526 : Option Value} {f28 : Addr} {oc28 : Value} {od28 : Option Addr} {an28 : Option Addr} {sl28 : Array (Option Value)} {kV28 : Value} {dc28 : Value} {pm28 : Value} {cd28 : Value} {ct28 : Value} {nm28 : Str} {qn28 : Str} {nn28 : Addr} {bs28 : List Value} {bm28 : List Value} {sb28 : List Value} {sn28 : List Str} {ab28 : Bool} {co28 : Option Bool} {dd28 : Option Addr} {k028 : Option Value} {k128 : Option Value} {k228 : Option Value} {k328 : Option Value} {k528 : Option Value} {f30 : Addr} {oc30 : Value} {od30 : Option Addr} {an30 : Option Addr} {sl30 : Array (Option Value)} {kV30 : Value} {dc30 : Value} {pm30 : Value} {cd30 : Value} {ct30 : Value} {nm30 : Str} {qn30 : Str} {nn30 : Addr} {bs30 : List Value} {bm30 : List Value} {sb30 : List Value} {sn30 : List Str} {ab30 : Bool} {co30 : Option Bool} {dd30 : Option Addr} {k030 : Option Value} {k130 : Option Value} {k230 : Option Value} {k330 : Option Value} {k530 : Option Value} {f32 : Addr} {oc32 : Value} {od32 : Option Addr} {an32 : Option Addr} {sl32 : Array (Option Value)} {kV32 : Value} {dc32 : Value} {pm32 : Value} {cd32 : Value} {ct32 : Value} {nm32 : Str} {qn32 : Str} {nn32 : Addr} {bs32 : List Value} {bm32 : List Value} {sb32 : List Value} {sn32 : List Str} {ab32 : Bool} {co32 : Option Bool} {dd32 : Option Addr} {k032 : Option Value} {k132 : Option Value} {k232 : Option Value} {k332 : Option Value} {k532 : Option Value} {f34 : Addr} {oc34 : Value} {od34 : Option Addr} {an34 : Option Addr} {sl34 : Array (Option Value)} {kV34 : Value} {dc34 : Value} {pm34 : Value} {cd34 : Value} {ct34 : Value} {nm34 : Str} {qn34 : Str} {nn34 : Addr} {bs34 : List Value} {bm34 : List Value} {sb34 : List Value} {sn34 : List Str} {ab34 : Bool} {co34 : Option Bool} {dd34 : Option Addr} {k034 : Option Value} {k134 : Option Value} {k234 : Option Value} {k334 : Option Value} {k534 : Option Value} {f75 : Addr} {oc75 : Value} {od75 : Option Addr} {an75 : Option Addr} {sl75 : Array (Option Value)} {kV75 : Value} {dc75 : Value} {pm75 : Value} {cd75 : Value} {ct75 : Value} {f76 : Addr} {oc76 : Value} {od76 : Option Addr} {an76 : Option Addr} {sl76 : Array (Option Value)} {kV76 : Value} {dc76 : Value} {pm76 : Value} {cd76 : Value} {ct76 : Value} {f77 : Addr} {oc77 : Value} {od77 : Option Addr} {an77 : Option Addr} {sl77 : Array (Option Value)} {kV77 : Value} {dc77 : Value} {pm77 : Value} {cd77 : Value} {ct77 : Value} {f78 : Addr} {oc78 : Value} {od78 : Option Addr} {an78 : Option Addr} {sl78 : Array (Option Value)} {kV78 : Value} {dc78 : Value} {pm78 : Value} {cd78 : Value} {ct78 : Value} {f79 : Addr} {oc79 : Value} {od79 : Option Addr} {an79 : Option Addr} {sl79 : Array (Option Value)} {kV79 : Value} {dc79 : Value} {pm79 : Value} {cd79 : Value} {ct79 : Value} {f80 : Addr} {oc80 : Value} {od80 : Option Addr} {an80 : Option Addr} {sl80 : Array (Option Value)} {kV80 : Value} {dc80 : Value} {pm80 : Value} {cd80 : Value} {ct80 : Value} {f81 : Addr} {oc81 : Value} {od81 : Option Addr} {an81 : Option Addr} {sl81 : Array (Option Value)} {kV81 : Value} {dc81 : Value} {pm81 : Value} {cd81 : Value} {ct81 : Value} {f82 : Addr} {oc82 : Value} {od82 : Option Addr} {an82 : Option Addr} {sl82 : Array (Option Value)} {kV82 : Value} {dc82 : Value} {pm82 : Value} {cd82 : Value} {ct82 : Value} {f83 : Addr} {oc83 : Value} {od83 : Option Addr} {an83 : Option Addr} {sl83 : Array (Option Value)} {kV83 : Value} {dc83 : Value} {pm83 : Value} {cd83 : Value} {ct83 : Value} {f84 : Addr} {oc84 : Value} {od84 : Option Addr} {an84 : Option Addr} {sl84 : Array (Option Value)} {kV84 : Value} {dc84 : Value} {pm84 : Value} {cd84 : Value} {ct84 : Value} {f85 : Addr} {oc85 : Value} {od85 : Option Addr} {an85 : Option Addr} {sl85 : Array (Option Value)} {kV85 : Value} {dc85 : Value} {pm85 : Value} {cd85 : Value} {ct85 : Value} {f86 : Addr} {oc86 : Value} {od86 : Option Addr} {an86 : Option Addr} {sl86 : Array (Option Value)} {kV86 : Value} {dc86 : Value} {pm86 : Value} {cd86 : Value} {ct86 : Value} {f87 : Addr} {oc87 : Value} {od87 : Option Addr} {an87 : Option Addr} {sl87 : Array (Option Value)} {kV87 : Value} {dc87 : Value} {pm87 : Value} {cd87 : Value} {ct87 : Value} {f88 : Addr} {oc88 : Value} {od88 : Option Addr} {an88 : Option Addr} {sl88 : Array (Option Value)} {kV88 : Value} {dc88 : Value} {pm88 : Value} {cd88 : Value} {ct88 : Value} {f89 : Addr} {oc89 : Value} {od89 : Option Addr} {an89 : Option Addr} {sl89 : Array (Option Value)} {kV89 : Value} {dc89 : Value} {pm89 : Value} {cd89 : Value} {ct89 : Value} {f90 : Addr} {oc90 : Value} {od90 : Option Addr} {an90 : Option Addr} {sl90 : Array (Option Value)} {kV90 : Value} {dc90 : Value} {pm90 : Value} {cd90 : Value} {ct90 : Value} {f91 : Addr} {oc91 : Value} {od91 : Option Addr} {an91 : Option Addr} {sl91 : Array (Option Value)} {kV91 : Value} {dc91 : Value} {pm91 : Value} {cd91 : Value} {ct91 : Value} {f92 : Addr} {oc92 : Value} {od92 : Option Addr} {an92 : Option Addr} {sl92 : Array (Option Value)} {kV92 : Value} {dc92 : Value} {pm92 : Value} {cd92 : Value} {ct92 : Value} {f93 : Addr} {oc93 : Value} {od93 : Option Addr} {an93 : Option Addr} {sl93 : Array (Option Value)} {kV93 : Value} {dc93 : Value} {pm93 : Value} {cd93 : Value} {ct93 : Value} {f94 : Addr} {oc94 : Value} {od94 : Option Addr} {an94 : Option Addr} {sl94 : Array (Option Value)} {kV94 : Value} {dc94 : Value} {pm94 : Value} {cd94 : Value} {ct94 : Value} {f95 : Addr} {oc95 : Value} {od95 : Option Addr} {an95 : Option Addr} {sl95 : Array (Option Value)} {kV95 : Value} {dc95 : Value} {pm95 : Value} {cd95 : Value} {ct95 : Value} {f96 : Addr} {oc96 : Value} {od96 : Option Addr} {an96 : Option Addr} {sl96 : Array (Option Value)} {kV96 : Value} {dc96 : Value} {pm96 : Value} {cd96 : Value} {ct96 : Value} {f97 : Addr} {oc97 : Value} {od97 : Option Addr} {an97 : Option Addr} {sl97 : Array (Option Value)} {kV97 : Value} {dc97 : Value} {pm97 : Value} {cd97 : Value} {ct97 : Value} {f98 : Addr} {oc98 : Value} {od98 : Option Addr} {an98 : Option Addr} {sl98 : Array (Option Value)} {kV98 : Value} {dc98 : Value} {pm98 : Value} {cd98 : Value} {ct98 : Value} {f99 : Addr} {oc99 : Value} {od99 : Option Addr} {an99 : Option Addr} {sl99 : Array (Option Value)} {kV99 : Value} {dc99 : Value} {pm99 : Value} {cd99 : Value} {ct99 : Value} {f100 : Addr} {oc100 : Value} {od100 : Option Addr} {an100 : Option Addr} {sl100 : Array (Option Value)} {kV100 : Value} {dc100 : Value} {pm100 : Value} {cd100 : Value} {ct100 : Value} {f101 : Addr} {oc101 : Value} {od101 : Option Addr} {an101 : Option Addr} {sl101 : Array (Option Value)} {kV101 : Value} {dc101 : Value} {pm101 : Value} {cd101 : Value} {ct101 : Value} {f102 : Addr} {oc102 : Value} {od102 : Option Addr} {an102 : Option Addr} {sl102 : Array (Option Value)} {kV102 : Value} {dc102 : Value} {pm102 : Value} {cd102 : Value} {ct102 : Value} {f103 : Addr} {oc103 : Value} {od103 : Option Addr} {an103 : Option Addr} {sl103 : Array (Option Value)} {kV103 : Value} {dc103 : Value} {pm103 : Value} {cd103 : Value} {ct103 : Value} {f104 : Addr} {oc104 : Value} {od104 : Option Addr} {an104 : Option Addr} {sl104 : Array (Option Value)} {kV104 : Value} {dc104 : Value} {pm104 : Value} {cd104 : Value} {ct104 : Value} {f105 : Addr} {oc105 : Value} {od105 : Option Addr} {an105 : Option Addr} {sl105 : Array (Option Value)} {kV105 : Value} {dc105 : Value} {pm105 : Value} {cd105 : Value} {ct105 : Value} {f106 : Addr} {oc106 : Value} {od106 : Option Addr} {an106 : Option Addr} {sl106 : Array (Option Value)} {kV106 : Value} {dc106 : Value} {pm106 : Value} {ct106 : Value} {o107 : Obj} {vs107 : Array Value} {fi107 : Str} {tf107 : Tok} {fl107 : Int} {tg107 : Tok} {nf107 : Bool} {tx107 : Int} {tt107 : Tok}
    (h1 : PySem.W.nsIn K mainGlobals "isinstance" = some none)
    (h2 : PySem.W.nsIn K mainGlobals "bool" = some none)
    (h3 : PySem.W.nsIn K mainGlobals "int" = some none)
    (h4 : PySem.W.nsIn K mainGlobals "tuple" = some none)
    (h5 : PySem.W.nsIn K mainGlobals "len" = some none)
    (h6 : PySem.W.nsIn K mainGlobals "all" = some none)
    (h7 : PySem.W.nsIn K mainGlobals "range" = some none)
    (h8 : PySem.W.nsIn K mainGlobals "enumerate" = some none)
    (h9 : PySem.W.nsIn K mainGlobals "sorted" = some none)
    (h10 : PySem.W.nsIn K mainGlobals "set" = some none)
    (h11 : PySem.W.nsIn K mainGlobals "list" = some none)
    (h12 : PySem.W.nsIn K mainGlobals "max" = some none)
    (h13 : PySem.W.nsIn K mainGlobals "min" = some none)
    (h14 : PySem.W.nsIn K mainGlobals "zip" = some none)
    (h15 : PySem.W.nsIn K mainGlobals "abs" = some none)
    (h16 : PySem.W.nsIn K mainGlobals "dict" = some none)
    (h17 : PySem.W.nsIn K mainGlobals "str" = some none)
    (h18 : PySem.W.nsIn K mainGlobals "ValueError" = some none)
    (h19 : PySem.W.nsIn K mainGlobals "LookupError" = some none)
    (h20 : PySem.W.nsIn K mainGlobals "MOST_LISTED" = some (some (.int 6 t19)))
    (h21 : PySem.W.nsIn K mainGlobals "InvalidName" = some (some (.ref z_InvalidName)))
    (h22 : K.lookup z_InvalidName = some (excClassObj nm20 qn20 z_InvalidName nn20 bs20 bm20 true sn20 sb20 ab20 co20 dd20 k020 k120 k220 k320 k520 "ValueError.__new__"))
    (h23 : PySem.HandSPX.refsVE bm20 = true)
    (h24 : PySem.W.findIn K (.ref z_InvalidName) "__setattr__" = some (some (.builtin "object.__setattr__")))
    (h25 : PySem.W.subIn K (.ref z_InvalidName) (.type "BaseException") = some true)
    (h26 : PySem.W.typeIn K (.ref z_InvalidName) = some (.type "type"))
    (h27 : PySem.W.keepIn K (.ref z_InvalidName) = true)
    (h28 : xfB K z_InvalidName = true)
    (h29 : PySem.W.findIn K (.ref z_InvalidName) "__init__" = some (some (.ref f20)))
    (h30 : PySem.W.typeIn K (.ref f20) = some (.type "function"))
    (h31 : K.lookup f20 = some ⟨oc20, od20, .func (PySem.W.fnOf "__init__" "InvalidName.__init__" (defArgs s_InvalidName___init) (defBody s_InvalidName___init) (defScope s_InvalidName___init) .none kV20 dc20 pm20 an20 cd20 ct20), sl20⟩)
    (h32 : PySem.W.codeIn K cd20 "InvalidName.__init__" = true)
    (h33 : PySem.W.keepIn K (.ref f20) = true)
    (h34 : PySem.W.findIn K (.ref z_InvalidName) "value" = some none)
    (h35 : PySem.W.nsIn K mainGlobals "InvalidNumber" = some (some (.ref z_InvalidNumber)))
    (h36 : K.lookup z_InvalidNumber = some (excClassObj nm22 qn22 z_InvalidNumber nn22 bs22 bm22 true sn22 sb22 ab22 co22 dd22 k022 k122 k222 k322 k522 "ValueError.__new__"))
    (h37 : PySem.HandSPX.refsVE bm22 = true)
    (h38 : PySem.W.findIn K (.ref z_InvalidNumber) "__setattr__" = some (some (.builtin "object.__setattr__")))
    (h39 : PySem.W.subIn K (.ref z_InvalidNumber) (.type "BaseException") = some true)
    (h40 : PySem.W.typeIn K (.ref z_InvalidNumber) = some (.type "type"))
    (h41 : PySem.W.keepIn K (.ref z_InvalidNumber) = true)
    (h42 : xfB K z_InvalidNumber = true)
    (h43 : PySem.W.findIn K (.ref z_InvalidNumber) "__init__" = some (some (.ref f22)))
    (h44 : PySem.W.typeIn K (.ref f22) = some (.type "function"))
    (h45 : K.lookup f22 = some ⟨oc22, od22, .func (PySem.W.fnOf "__init__" "InvalidNumber.__init__" (defArgs s_InvalidNumber___init) (defBody s_InvalidNumber___init) (defScope s_InvalidNumber___init) .none kV22 dc22 pm22 an22 cd22 ct22), sl22⟩)
    (h46 : PySem.W.codeIn K cd22 "InvalidNumber.__init__" = true)
    (h47 : PySem.W.keepIn K (.ref f22) = true)
    (h48 : PySem.W.findIn K (.ref z_InvalidNumber) "value" = some none)
    (h49 : PySem.W.nsIn K mainGlobals "InvalidText" = some (some (.ref z_InvalidText)))
    (h50 : K.lookup z_InvalidText = some (excClassObj nm24 qn24 z_InvalidText nn24 bs24 bm24 true sn24 sb24 ab24 co24 dd24 k024 k124 k224 k324 k524 "ValueError.__new__"))
    (h51 : PySem.HandSPX.refsVE bm24 = true)
    (h52 : PySem.W.findIn K (.ref z_InvalidText) "__setattr__" = some (some (.builtin "object.__setattr__")))
    (h53 : PySem.W.subIn K (.ref z_InvalidText) (.type "BaseException") = some true)
    (h54 : PySem.W.typeIn K (.ref z_InvalidText) = some (.type "type"))
    (h55 : PySem.W.keepIn K (.ref z_InvalidText) = true)
    (h56 : xfB K z_InvalidText = true)
    (h57 : PySem.W.findIn K (.ref z_InvalidText) "__init__" = some (some (.ref f24)))
    (h58 : PySem.W.typeIn K (.ref f24) = some (.type "function"))
    (h59 : K.lookup f24 = some ⟨oc24, od24, .func (PySem.W.fnOf "__init__" "InvalidText.__init__" (defArgs s_InvalidText___init) (defBody s_InvalidText___init) (defScope s_InvalidText___init) .none kV24 dc24 pm24 an24 cd24 ct24), sl24⟩)
    (h60 : PySem.W.codeIn K cd24 "InvalidText.__init__" = true)
    (h61 : PySem.W.keepIn K (.ref f24) = true)
    (h62 : PySem.W.findIn K (.ref z_InvalidText) "at" = some none)
    (h63 : PySem.W.nsIn K mainGlobals "InvalidCircle" = some (some (.ref z_InvalidCircle)))
    (h64 : K.lookup z_InvalidCircle = some (excClassObj nm26 qn26 z_InvalidCircle nn26 bs26 bm26 true sn26 sb26 ab26 co26 dd26 k026 k126 k226 k326 k526 "ValueError.__new__"))
    (h65 : PySem.HandSPX.refsVE bm26 = true)
    (h66 : PySem.W.findIn K (.ref z_InvalidCircle) "__setattr__" = some (some (.builtin "object.__setattr__")))
    (h67 : PySem.W.subIn K (.ref z_InvalidCircle) (.type "BaseException") = some true)
    (h68 : PySem.W.typeIn K (.ref z_InvalidCircle) = some (.type "type"))
    (h69 : PySem.W.keepIn K (.ref z_InvalidCircle) = true)
    (h70 : xfB K z_InvalidCircle = true)
    (h71 : PySem.W.findIn K (.ref z_InvalidCircle) "__init__" = some (some (.ref f26)))
    (h72 : PySem.W.typeIn K (.ref f26) = some (.type "function"))
    (h73 : K.lookup f26 = some ⟨oc26, od26, .func (PySem.W.fnOf "__init__" "InvalidCircle.__init__" (defArgs s_InvalidCircle___init) (defBody s_InvalidCircle___init) (defScope s_InvalidCircle___init) .none kV26 dc26 pm26 an26 cd26 ct26), sl26⟩)
    (h74 : PySem.W.codeIn K cd26 "InvalidCircle.__init__" = true)
    (h75 : PySem.W.keepIn K (.ref f26) = true)
    (h76 : PySem.W.findIn K (.ref z_InvalidCircle) "at" = some none)
    (h77 : PySem.W.nsIn K mainGlobals "InvalidTie" = some (some (.ref z_InvalidTie)))
    (h78 : K.lookup z_InvalidTie = some (excClassObj nm28 qn28 z_InvalidTie nn28 bs28 bm28 true sn28 sb28 ab28 co28 dd28 k028 k128 k228 k328 k528 "ValueError.__new__"))
    (h79 : PySem.HandSPX.refsVE bm28 = true)
    (h80 : PySem.W.findIn K (.ref z_InvalidTie) "__setattr__" = some (some (.builtin "object.__setattr__")))
    (h81 : PySem.W.subIn K (.ref z_InvalidTie) (.type "BaseException") = some true)
    (h82 : PySem.W.typeIn K (.ref z_InvalidTie) = some (.type "type"))
    (h83 : PySem.W.keepIn K (.ref z_InvalidTie) = true)
    (h84 : xfB K z_InvalidTie = true)
    (h85 : PySem.W.findIn K (.ref z_InvalidTie) "__init__" = some (some (.ref f28)))
    (h86 : PySem.W.typeIn K (.ref f28) = some (.type "function"))
    (h87 : K.lookup f28 = some ⟨oc28, od28, .func (PySem.W.fnOf "__init__" "InvalidTie.__init__" (defArgs s_InvalidTie___init) (defBody s_InvalidTie___init) (defScope s_InvalidTie___init) .none kV28 dc28 pm28 an28 cd28 ct28), sl28⟩)
    (h88 : PySem.W.codeIn K cd28 "InvalidTie.__init__" = true)
    (h89 : PySem.W.keepIn K (.ref f28) = true)
    (h90 : PySem.W.findIn K (.ref z_InvalidTie) "at" = some none)
    (h91 : PySem.W.nsIn K mainGlobals "InvalidParting" = some (some (.ref z_InvalidParting)))
    (h92 : K.lookup z_InvalidParting = some (excClassObj nm30 qn30 z_InvalidParting nn30 bs30 bm30 true sn30 sb30 ab30 co30 dd30 k030 k130 k230 k330 k530 "ValueError.__new__"))
    (h93 : PySem.HandSPX.refsVE bm30 = true)
    (h94 : PySem.W.findIn K (.ref z_InvalidParting) "__setattr__" = some (some (.builtin "object.__setattr__")))
    (h95 : PySem.W.subIn K (.ref z_InvalidParting) (.type "BaseException") = some true)
    (h96 : PySem.W.typeIn K (.ref z_InvalidParting) = some (.type "type"))
    (h97 : PySem.W.keepIn K (.ref z_InvalidParting) = true)
    (h98 : xfB K z_InvalidParting = true)
    (h99 : PySem.W.findIn K (.ref z_InvalidParting) "__init__" = some (some (.ref f30)))
    (h100 : PySem.W.typeIn K (.ref f30) = some (.type "function"))
    (h101 : K.lookup f30 = some ⟨oc30, od30, .func (PySem.W.fnOf "__init__" "InvalidParting.__init__" (defArgs s_InvalidParting___init) (defBody s_InvalidParting___init) (defScope s_InvalidParting___init) .none kV30 dc30 pm30 an30 cd30 ct30), sl30⟩)
    (h102 : PySem.W.codeIn K cd30 "InvalidParting.__init__" = true)
    (h103 : PySem.W.keepIn K (.ref f30) = true)
    (h104 : PySem.W.findIn K (.ref z_InvalidParting) "value" = some none)
    (h105 : PySem.W.nsIn K mainGlobals "InvalidCase" = some (some (.ref z_InvalidCase)))
    (h106 : K.lookup z_InvalidCase = some (excClassObj nm32 qn32 z_InvalidCase nn32 bs32 bm32 true sn32 sb32 ab32 co32 dd32 k032 k132 k232 k332 k532 "ValueError.__new__"))
    (h107 : PySem.HandSPX.refsVE bm32 = true)
    (h108 : PySem.W.findIn K (.ref z_InvalidCase) "__setattr__" = some (some (.builtin "object.__setattr__")))
    (h109 : PySem.W.subIn K (.ref z_InvalidCase) (.type "BaseException") = some true)
    (h110 : PySem.W.typeIn K (.ref z_InvalidCase) = some (.type "type"))
    (h111 : PySem.W.keepIn K (.ref z_InvalidCase) = true)
    (h112 : xfB K z_InvalidCase = true)
    (h113 : PySem.W.findIn K (.ref z_InvalidCase) "__init__" = some (some (.ref f32)))
    (h114 : PySem.W.typeIn K (.ref f32) = some (.type "function"))
    (h115 : K.lookup f32 = some ⟨oc32, od32, .func (PySem.W.fnOf "__init__" "InvalidCase.__init__" (defArgs s_InvalidCase___init) (defBody s_InvalidCase___init) (defScope s_InvalidCase___init) .none kV32 dc32 pm32 an32 cd32 ct32), sl32⟩)
    (h116 : PySem.W.codeIn K cd32 "InvalidCase.__init__" = true)
    (h117 : PySem.W.keepIn K (.ref f32) = true)
    (h118 : PySem.W.findIn K (.ref z_InvalidCase) "value" = some none)
    (h119 : PySem.W.nsIn K mainGlobals "TooMany" = some (some (.ref z_TooMany)))
    (h120 : K.lookup z_TooMany = some (excClassObj nm34 qn34 z_TooMany nn34 bs34 bm34 true sn34 sb34 ab34 co34 dd34 k034 k134 k234 k334 k534 "ValueError.__new__"))
    (h121 : PySem.HandSPX.refsVE bm34 = true)
    (h122 : PySem.W.findIn K (.ref z_TooMany) "__setattr__" = some (some (.builtin "object.__setattr__")))
    (h123 : PySem.W.subIn K (.ref z_TooMany) (.type "BaseException") = some true)
    (h124 : PySem.W.typeIn K (.ref z_TooMany) = some (.type "type"))
    (h125 : PySem.W.keepIn K (.ref z_TooMany) = true)
    (h126 : xfB K z_TooMany = true)
    (h127 : PySem.W.findIn K (.ref z_TooMany) "__init__" = some (some (.ref f34)))
    (h128 : PySem.W.typeIn K (.ref f34) = some (.type "function"))
    (h129 : K.lookup f34 = some ⟨oc34, od34, .func (PySem.W.fnOf "__init__" "TooMany.__init__" (defArgs s_TooMany___init) (defBody s_TooMany___init) (defScope s_TooMany___init) .none kV34 dc34 pm34 an34 cd34 ct34), sl34⟩)
    (h130 : PySem.W.codeIn K cd34 "TooMany.__init__" = true)
    (h131 : PySem.W.keepIn K (.ref f34) = true)
    (h132 : PySem.W.findIn K (.ref z_TooMany) "what" = some none)
    (h133 : PySem.W.findIn K (.ref z_TooMany) "most" = some none)
    (h134 : PySem.W.exmOne K (.ref z_InvalidName) (.ref z_InvalidName) = some true)
    (h135 : PySem.W.exmOne K (.ref z_InvalidCircle) (.ref z_InvalidName) = some false)
    (h136 : PySem.W.exmOne K (.ref z_InvalidCircle) (.ref z_InvalidNumber) = some false)
    (h137 : PySem.W.exmOne K (.ref z_InvalidCircle) (.ref z_InvalidText) = some false)
    (h138 : PySem.W.exmOne K (.ref z_InvalidCircle) (.ref z_InvalidCircle) = some true)
    (h139 : PySem.W.exmOne K (.ref z_InvalidNumber) (.ref z_InvalidName) = some false)
    (h140 : PySem.W.exmOne K (.ref z_InvalidNumber) (.ref z_InvalidNumber) = some true)
    (h141 : PySem.W.exmOne K (.ref z_InvalidTie) (.ref z_InvalidName) = some false)
    (h142 : PySem.W.exmOne K (.ref z_InvalidTie) (.ref z_InvalidNumber) = some false)
    (h143 : PySem.W.exmOne K (.ref z_InvalidTie) (.ref z_InvalidText) = some false)
    (h144 : PySem.W.exmOne K (.ref z_InvalidTie) (.ref z_InvalidCircle) = some false)
    (h145 : PySem.W.exmOne K (.ref z_InvalidTie) (.ref z_InvalidTie) = some true)
    (h146 : PySem.W.exmOne K (.ref z_InvalidParting) (.ref z_InvalidName) = some false)
    (h147 : PySem.W.exmOne K (.ref z_InvalidParting) (.ref z_InvalidNumber) = some false)
    (h148 : PySem.W.exmOne K (.ref z_InvalidParting) (.ref z_InvalidText) = some false)
    (h149 : PySem.W.exmOne K (.ref z_InvalidParting) (.ref z_InvalidCircle) = some false)
    (h150 : PySem.W.exmOne K (.ref z_InvalidParting) (.ref z_InvalidTie) = some false)
    (h151 : PySem.W.exmOne K (.ref z_InvalidParting) (.ref z_InvalidParting) = some true)
    (h152 : PySem.W.exmOne K (.ref z_TooMany) (.ref z_InvalidName) = some false)
    (h153 : PySem.W.exmOne K (.ref z_TooMany) (.ref z_InvalidNumber) = some false)
    (h154 : PySem.W.exmOne K (.ref z_TooMany) (.ref z_InvalidText) = some false)
    (h155 : PySem.W.exmOne K (.ref z_TooMany) (.ref z_InvalidCircle) = some false)
    (h156 : PySem.W.exmOne K (.ref z_TooMany) (.ref z_InvalidTie) = some false)
    (h157 : PySem.W.exmOne K (.ref z_TooMany) (.ref z_InvalidParting) = some false)
    (h158 : PySem.W.exmOne K (.ref z_TooMany) (.ref z_InvalidCase) = some false)
    (h159 : PySem.W.exmOne K (.ref z_TooMany) (.ref z_TooMany) = some true)
    (h160 : PySem.W.exmOne K (.ref z_InvalidText) (.ref z_InvalidName) = some false)
    (h161 : PySem.W.exmOne K (.ref z_InvalidText) (.ref z_InvalidNumber) = some false)
    (h162 : PySem.W.exmOne K (.ref z_InvalidText) (.ref z_InvalidText) = some true)
    (h163 : PySem.W.exmOne K (.ref z_InvalidText) (.ref z_TooMany) = some false)
    (h164 : PySem.W.exmOne K (.ref z_InvalidCase) (.ref z_InvalidName) = some false)
    (h165 : PySem.W.exmOne K (.ref z_InvalidCase) (.ref z_InvalidNumber) = some false)
    (h166 : PySem.W.exmOne K (.ref z_InvalidCase) (.ref z_InvalidText) = some false)
    (h167 : PySem.W.exmOne K (.ref z_InvalidCase) (.ref z_InvalidCircle) = some false)
    (h168 : PySem.W.exmOne K (.ref z_InvalidCase) (.ref z_InvalidTie) = some false)
    (h169 : PySem.W.exmOne K (.ref z_InvalidCase) (.ref z_InvalidParting) = some false)
    (h170 : PySem.W.exmOne K (.ref z_InvalidCase) (.ref z_InvalidCase) = some true)
    (h171 : PySem.W.subIn K (.ref z_InvalidNumber) (.type "StopIteration") = some false)
    (h172 : PySem.W.nsIn K mainGlobals "is_number" = some (some (.ref f75)))
    (h173 : K.lookup f75 = some ⟨oc75, od75, .func (PySem.W.fnOf "is_number" "is_number" (defArgs s_is_number) (defBody s_is_number) (defScope s_is_number) .none kV75 dc75 pm75 an75 cd75 ct75), sl75⟩)
    (h174 : PySem.W.codeIn K cd75 "is_number" = true)
    (h175 : PySem.W.keepIn K (.ref f75) = true)
    (h176 : PySem.W.nsIn K mainGlobals "is_parting" = some (some (.ref f76)))
    (h177 : K.lookup f76 = some ⟨oc76, od76, .func (PySem.W.fnOf "is_parting" "is_parting" (defArgs s_is_parting) (defBody s_is_parting) (defScope s_is_parting) .none kV76 dc76 pm76 an76 cd76 ct76), sl76⟩)
    (h178 : PySem.W.codeIn K cd76 "is_parting" = true)
    (h179 : PySem.W.keepIn K (.ref f76) = true)
    (h180 : PySem.W.nsIn K mainGlobals "is_item" = some (some (.ref f77)))
    (h181 : K.lookup f77 = some ⟨oc77, od77, .func (PySem.W.fnOf "is_item" "is_item" (defArgs s_is_item) (defBody s_is_item) (defScope s_is_item) .none kV77 dc77 pm77 an77 cd77 ct77), sl77⟩)
    (h182 : PySem.W.codeIn K cd77 "is_item" = true)
    (h183 : PySem.W.keepIn K (.ref f77) = true)
    (h184 : PySem.W.nsIn K mainGlobals "lots_of" = some (some (.ref f78)))
    (h185 : K.lookup f78 = some ⟨oc78, od78, .func (PySem.W.fnOf "lots_of" "lots_of" (defArgs s_lots_of) (defBody s_lots_of) (defScope s_lots_of) .none kV78 dc78 pm78 an78 cd78 ct78), sl78⟩)
    (h186 : PySem.W.codeIn K cd78 "lots_of" = true)
    (h187 : PySem.W.keepIn K (.ref f78) = true)
    (h188 : PySem.W.nsIn K mainGlobals "meet_of" = some (some (.ref f79)))
    (h189 : K.lookup f79 = some ⟨oc79, od79, .func (PySem.W.fnOf "meet_of" "meet_of" (defArgs s_meet_of) (defBody s_meet_of) (defScope s_meet_of) .none kV79 dc79 pm79 an79 cd79 ct79), sl79⟩)
    (h190 : PySem.W.codeIn K cd79 "meet_of" = true)
    (h191 : PySem.W.keepIn K (.ref f79) = true)
    (h192 : PySem.W.nsIn K mainGlobals "join_of" = some (some (.ref f80)))
    (h193 : K.lookup f80 = some ⟨oc80, od80, .func (PySem.W.fnOf "join_of" "join_of" (defArgs s_join_of) (defBody s_join_of) (defScope s_join_of) .none kV80 dc80 pm80 an80 cd80 ct80), sl80⟩)
    (h194 : PySem.W.codeIn K cd80 "join_of" = true)
    (h195 : PySem.W.keepIn K (.ref f80) = true)
    (h196 : PySem.W.nsIn K mainGlobals "is_within" = some (some (.ref f81)))
    (h197 : K.lookup f81 = some ⟨oc81, od81, .func (PySem.W.fnOf "is_within" "is_within" (defArgs s_is_within) (defBody s_is_within) (defScope s_is_within) .none kV81 dc81 pm81 an81 cd81 ct81), sl81⟩)
    (h198 : PySem.W.codeIn K cd81 "is_within" = true)
    (h199 : PySem.W.keepIn K (.ref f81) = true)
    (h200 : PySem.W.nsIn K mainGlobals "check_partings" = some (some (.ref f82)))
    (h201 : K.lookup f82 = some ⟨oc82, od82, .func (PySem.W.fnOf "check_partings" "check_partings" (defArgs s_check_partings) (defBody s_check_partings) (defScope s_check_partings) .none kV82 dc82 pm82 an82 cd82 ct82), sl82⟩)
    (h202 : PySem.W.codeIn K cd82 "check_partings" = true)
    (h203 : PySem.W.keepIn K (.ref f82) = true)
    (h204 : PySem.W.nsIn K mainGlobals "all_partings" = some (some (.ref f83)))
    (h205 : K.lookup f83 = some ⟨oc83, od83, .func (PySem.W.fnOf "all_partings" "all_partings" (defArgs s_all_partings) (defBody s_all_partings) (defScope s_all_partings) .none kV83 dc83 pm83 an83 cd83 ct83), sl83⟩)
    (h206 : PySem.W.codeIn K cd83 "all_partings" = true)
    (h207 : PySem.W.keepIn K (.ref f83) = true)
    (h208 : PySem.W.nsIn K mainGlobals "linked" = some (some (.ref f84)))
    (h209 : K.lookup f84 = some ⟨oc84, od84, .func (PySem.W.fnOf "linked" "linked" (defArgs s_linked) (defBody s_linked) (defScope s_linked) .none kV84 dc84 pm84 an84 cd84 ct84), sl84⟩)
    (h210 : PySem.W.codeIn K cd84 "linked" = true)
    (h211 : PySem.W.keepIn K (.ref f84) = true)
    (h212 : PySem.W.nsIn K mainGlobals "by_keys" = some (some (.ref f85)))
    (h213 : K.lookup f85 = some ⟨oc85, od85, .func (PySem.W.fnOf "by_keys" "by_keys" (defArgs s_by_keys) (defBody s_by_keys) (defScope s_by_keys) .none kV85 dc85 pm85 an85 cd85 ct85), sl85⟩)
    (h214 : PySem.W.codeIn K cd85 "by_keys" = true)
    (h215 : PySem.W.keepIn K (.ref f85) = true)
    (h216 : PySem.W.nsIn K mainGlobals "met" = some (some (.ref f86)))
    (h217 : K.lookup f86 = some ⟨oc86, od86, .func (PySem.W.fnOf "met" "met" (defArgs s_met) (defBody s_met) (defScope s_met) .none kV86 dc86 pm86 an86 cd86 ct86), sl86⟩)
    (h218 : PySem.W.codeIn K cd86 "met" = true)
    (h219 : PySem.W.keepIn K (.ref f86) = true)
    (h220 : PySem.W.nsIn K mainGlobals "joined" = some (some (.ref f87)))
    (h221 : K.lookup f87 = some ⟨oc87, od87, .func (PySem.W.fnOf "joined" "joined" (defArgs s_joined) (defBody s_joined) (defScope s_joined) .none kV87 dc87 pm87 an87 cd87 ct87), sl87⟩)
    (h222 : PySem.W.codeIn K cd87 "joined" = true)
    (h223 : PySem.W.keepIn K (.ref f87) = true)
    (h224 : PySem.W.nsIn K mainGlobals "within" = some (some (.ref f88)))
    (h225 : K.lookup f88 = some ⟨oc88, od88, .func (PySem.W.fnOf "within" "within" (defArgs s_within) (defBody s_within) (defScope s_within) .none kV88 dc88 pm88 an88 cd88 ct88), sl88⟩)
    (h226 : PySem.W.codeIn K cd88 "within" = true)
    (h227 : PySem.W.keepIn K (.ref f88) = true)
    (h228 : PySem.W.nsIn K mainGlobals "_law_bag" = some (some (.ref f89)))
    (h229 : K.lookup f89 = some ⟨oc89, od89, .func (PySem.W.fnOf "_law_bag" "_law_bag" (defArgs s_law_bag) (defBody s_law_bag) (defScope s_law_bag) .none kV89 dc89 pm89 an89 cd89 ct89), sl89⟩)
    (h230 : PySem.W.codeIn K cd89 "_law_bag" = true)
    (h231 : PySem.W.keepIn K (.ref f89) = true)
    (h232 : PySem.W.nsIn K mainGlobals "_law_draw" = some (some (.ref f90)))
    (h233 : K.lookup f90 = some ⟨oc90, od90, .func (PySem.W.fnOf "_law_draw" "_law_draw" (defArgs s_law_draw) (defBody s_law_draw) (defScope s_law_draw) .none kV90 dc90 pm90 an90 cd90 ct90), sl90⟩)
    (h234 : PySem.W.codeIn K cd90 "_law_draw" = true)
    (h235 : PySem.W.keepIn K (.ref f90) = true)
    (h236 : PySem.W.nsIn K mainGlobals "_law_of" = some (some (.ref f91)))
    (h237 : K.lookup f91 = some ⟨oc91, od91, .func (PySem.W.fnOf "_law_of" "_law_of" (defArgs s_law_of) (defBody s_law_of) (defScope s_law_of) .none kV91 dc91 pm91 an91 cd91 ct91), sl91⟩)
    (h238 : PySem.W.codeIn K cd91 "_law_of" = true)
    (h239 : PySem.W.keepIn K (.ref f91) = true)
    (h240 : PySem.W.nsIn K mainGlobals "_law_same" = some (some (.ref f92)))
    (h241 : K.lookup f92 = some ⟨oc92, od92, .func (PySem.W.fnOf "_law_same" "_law_same" (defArgs s_law_same) (defBody s_law_same) (defScope s_law_same) .none kV92 dc92 pm92 an92 cd92 ct92), sl92⟩)
    (h242 : PySem.W.codeIn K cd92 "_law_same" = true)
    (h243 : PySem.W.keepIn K (.ref f92) = true)
    (h244 : PySem.W.nsIn K mainGlobals "_law_try" = some (some (.ref f93)))
    (h245 : K.lookup f93 = some ⟨oc93, od93, .func (PySem.W.fnOf "_law_try" "_law_try" (defArgs s_law_try) (defBody s_law_try) (defScope s_law_try) .none kV93 dc93 pm93 an93 cd93 ct93), sl93⟩)
    (h246 : PySem.W.codeIn K cd93 "_law_try" = true)
    (h247 : PySem.W.keepIn K (.ref f93) = true)
    (h248 : PySem.W.nsIn K mainGlobals "_law_why" = some (some (.ref f94)))
    (h249 : K.lookup f94 = some ⟨oc94, od94, .func (PySem.W.fnOf "_law_why" "_law_why" (defArgs s_law_why) (defBody s_law_why) (defScope s_law_why) .none kV94 dc94 pm94 an94 cd94 ct94), sl94⟩)
    (h250 : PySem.W.codeIn K cd94 "_law_why" = true)
    (h251 : PySem.W.keepIn K (.ref f94) = true)
    (h252 : PySem.W.nsIn K mainGlobals "_law_odd" = some (some (.ref f95)))
    (h253 : K.lookup f95 = some ⟨oc95, od95, .func (PySem.W.fnOf "_law_odd" "_law_odd" (defArgs s_law_odd) (defBody s_law_odd) (defScope s_law_odd) .none kV95 dc95 pm95 an95 cd95 ct95), sl95⟩)
    (h254 : PySem.W.codeIn K cd95 "_law_odd" = true)
    (h255 : PySem.W.keepIn K (.ref f95) = true)
    (h256 : PySem.W.nsIn K mainGlobals "_law_is_case" = some (some (.ref f96)))
    (h257 : K.lookup f96 = some ⟨oc96, od96, .func (PySem.W.fnOf "_law_is_case" "_law_is_case" (defArgs s_law_is_case) (defBody s_law_is_case) (defScope s_law_is_case) .none kV96 dc96 pm96 an96 cd96 ct96), sl96⟩)
    (h258 : PySem.W.codeIn K cd96 "_law_is_case" = true)
    (h259 : PySem.W.keepIn K (.ref f96) = true)
    (h260 : PySem.W.nsIn K mainGlobals "_law_is_rows" = some (some (.ref f97)))
    (h261 : K.lookup f97 = some ⟨oc97, od97, .func (PySem.W.fnOf "_law_is_rows" "_law_is_rows" (defArgs s_law_is_rows) (defBody s_law_is_rows) (defScope s_law_is_rows) .none kV97 dc97 pm97 an97 cd97 ct97), sl97⟩)
    (h262 : PySem.W.codeIn K cd97 "_law_is_rows" = true)
    (h263 : PySem.W.keepIn K (.ref f97) = true)
    (h264 : PySem.W.nsIn K mainGlobals "_law_merged" = some (some (.ref f98)))
    (h265 : K.lookup f98 = some ⟨oc98, od98, .func (PySem.W.fnOf "_law_merged" "_law_merged" (defArgs s_law_merged) (defBody s_law_merged) (defScope s_law_merged) .none kV98 dc98 pm98 an98 cd98 ct98), sl98⟩)
    (h266 : PySem.W.codeIn K cd98 "_law_merged" = true)
    (h267 : PySem.W.keepIn K (.ref f98) = true)
    (h268 : PySem.W.nsIn K mainGlobals "_law_met" = some (some (.ref f99)))
    (h269 : K.lookup f99 = some ⟨oc99, od99, .func (PySem.W.fnOf "_law_met" "_law_met" (defArgs s_law_met) (defBody s_law_met) (defScope s_law_met) .none kV99 dc99 pm99 an99 cd99 ct99), sl99⟩)
    (h270 : PySem.W.codeIn K cd99 "_law_met" = true)
    (h271 : PySem.W.keepIn K (.ref f99) = true)
    (h272 : PySem.W.nsIn K mainGlobals "_law_joined" = some (some (.ref f100)))
    (h273 : K.lookup f100 = some ⟨oc100, od100, .func (PySem.W.fnOf "_law_joined" "_law_joined" (defArgs s_law_joined) (defBody s_law_joined) (defScope s_law_joined) .none kV100 dc100 pm100 an100 cd100 ct100), sl100⟩)
    (h274 : PySem.W.codeIn K cd100 "_law_joined" = true)
    (h275 : PySem.W.keepIn K (.ref f100) = true)
    (h276 : PySem.W.nsIn K mainGlobals "_law_inner" = some (some (.ref f101)))
    (h277 : K.lookup f101 = some ⟨oc101, od101, .func (PySem.W.fnOf "_law_inner" "_law_inner" (defArgs s_law_inner) (defBody s_law_inner) (defScope s_law_inner) .none kV101 dc101 pm101 an101 cd101 ct101), sl101⟩)
    (h278 : PySem.W.codeIn K cd101 "_law_inner" = true)
    (h279 : PySem.W.keepIn K (.ref f101) = true)
    (h280 : PySem.W.nsIn K mainGlobals "_law_rows" = some (some (.ref f102)))
    (h281 : K.lookup f102 = some ⟨oc102, od102, .func (PySem.W.fnOf "_law_rows" "_law_rows" (defArgs s_law_rows) (defBody s_law_rows) (defScope s_law_rows) .none kV102 dc102 pm102 an102 cd102 ct102), sl102⟩)
    (h282 : PySem.W.codeIn K cd102 "_law_rows" = true)
    (h283 : PySem.W.keepIn K (.ref f102) = true)
    (h284 : PySem.W.nsIn K mainGlobals "_law_grown" = some (some (.ref f103)))
    (h285 : K.lookup f103 = some ⟨oc103, od103, .func (PySem.W.fnOf "_law_grown" "_law_grown" (defArgs s_law_grown) (defBody s_law_grown) (defScope s_law_grown) .none kV103 dc103 pm103 an103 cd103 ct103), sl103⟩)
    (h286 : PySem.W.codeIn K cd103 "_law_grown" = true)
    (h287 : PySem.W.keepIn K (.ref f103) = true)
    (h288 : PySem.W.nsIn K mainGlobals "_law_count" = some (some (.ref f104)))
    (h289 : K.lookup f104 = some ⟨oc104, od104, .func (PySem.W.fnOf "_law_count" "_law_count" (defArgs s_law_count) (defBody s_law_count) (defScope s_law_count) .none kV104 dc104 pm104 an104 cd104 ct104), sl104⟩)
    (h290 : PySem.W.codeIn K cd104 "_law_count" = true)
    (h291 : PySem.W.keepIn K (.ref f104) = true)
    (h292 : PySem.W.nsIn K mainGlobals "_law_listed" = some (some (.ref f105)))
    (h293 : K.lookup f105 = some ⟨oc105, od105, .func (PySem.W.fnOf "_law_listed" "_law_listed" (defArgs s_law_listed) (defBody s_law_listed) (defScope s_law_listed) .none kV105 dc105 pm105 an105 cd105 ct105), sl105⟩)
    (h294 : PySem.W.codeIn K cd105 "_law_listed" = true)
    (h295 : PySem.W.keepIn K (.ref f105) = true)
    (h296 : PySem.W.nsIn K mainGlobals "law" = some (some (.ref f106)))
    (h297 : K.lookup f106 = some ⟨oc106, od106, .func (PySem.W.fnOf "law" "law" (defArgs s_law) (defBody s_law) (defScope s_law) .none kV106 dc106 pm106 an106 (.ref z_cdA) ct106), sl106⟩)
    (h298 : PySem.W.codeIn K (.ref z_cdA) "law" = true)
    (h299 : PySem.W.keepIn K (.ref f106) = true)
    (h300 : K.lookup z_cdA = some o107)
    (h301 : (o107).cls = .type "code")
    (h302 : (o107).data = .fields vs107)
    (h303 : (vs107)[11]? = some (.ref z_tbA))
    (h304 : (vs107).getD 11 .none = .ref z_tbA)
    (h305 : (vs107).getD 18 .none = .str fi107 tf107)
    (h306 : (vs107).getD 7 .none = .int fl107 tg107)
    (h307 : (vs107).getD 9 .none = .bool nf107)
    (h308 : (vs107).getD 10 .none = .int tx107 tt107)
    (h309 : z_cdA ≠ z_tbA)
    (h310 : h.get? z_tbA = some { cls := .none, data := .fields #[] })
    (h311 : (K.lookup z_tbA).isNone = true) :
    ∃ A : Adr, Txt K mg A ∧ Tbs K h A := ⟨⟨0, z_InvalidName, z_InvalidNumber, z_InvalidText, z_InvalidCircle, z_InvalidTie, z_InvalidParting, z_InvalidCase, z_TooMany, z_cdA, z_tbA⟩, {n_isinstance := PySem.W.mg_none_of X G h1, n_bool := PySem.W.mg_none_of X G h2, n_int := PySem.W.mg_none_of X G h3, n_tuple := PySem.W.mg_none_of X G h4, n_len := PySem.W.mg_none_of X G h5, n_all := PySem.W.mg_none_of X G h6, n_range := PySem.W.mg_none_of X G h7, n_enumerate := PySem.W.mg_none_of X G h8, n_sorted := PySem.W.mg_none_of X G h9, n_set := PySem.W.mg_none_of X G h10, n_list := PySem.W.mg_none_of X G h11, n_max := PySem.W.mg_none_of X G h12, n_min := PySem.W.mg_none_of X G h13, n_zip := PySem.W.mg_none_of X G h14, n_abs := PySem.W.mg_none_of X G h15, n_dict := PySem.W.mg_none_of X G h16, n_str := PySem.W.mg_none_of X G h17, n_ValueError := PySem.W.mg_none_of X G h18, n_LookupError := PySem.W.mg_none_of X G h19, m_MOST_LISTED := ⟨_, PySem.W.mg_of X G h20⟩, e_InvalidName := errAt_mk X G h21 h22 h23 h24 h25 h26 h27 h28 h29 h30 h31 h32 h33 (fun _ _ _ _ _ _ us hl => match us, hl with | [_, _], _ => rfl), a_InvalidName_value := h34, e_InvalidNumber := errAt_mk X G h35 h36 h37 h38 h39 h40 h41 h42 h43 h44 h45 h46 h47 (fun _ _ _ _ _ _ us hl => match us, hl with | [_, _], _ => rfl), a_InvalidNumber_value := h48, e_InvalidText := errAt_mk X G h49 h50 h51 h52 h53 h54 h55 h56 h57 h58 h59 h60 h61 (fun _ _ _ _ _ _ us hl => match us, hl with | [_, _], _ => rfl), a_InvalidText_at := h62, e_InvalidCircle := errAt_mk X G h63 h64 h65 h66 h67 h68 h69 h70 h71 h72 h73 h74 h75 (fun _ _ _ _ _ _ us hl => match us, hl with | [_, _], _ => rfl), a_InvalidCircle_at := h76, e_InvalidTie := errAt_mk X G h77 h78 h79 h80 h81 h82 h83 h84 h85 h86 h87 h88 h89 (fun _ _ _ _ _ _ us hl => match us, hl with | [_, _], _ => rfl), a_InvalidTie_at := h90, e_InvalidParting := errAt_mk X G h91 h92 h93 h94 h95 h96 h97 h98 h99 h100 h101 h102 h103 (fun _ _ _ _ _ _ us hl => match us, hl with | [_, _], _ => rfl), a_InvalidParting_value := h104, e_InvalidCase := errAt_mk X G h105 h106 h107 h108 h109 h110 h111 h112 h113 h114 h115 h116 h117 (fun _ _ _ _ _ _ us hl => match us, hl with | [_, _], _ => rfl), a_InvalidCase_value := h118, e_TooMany := errAt_mk X G h119 h120 h121 h122 h123 h124 h125 h126 h127 h128 h129 h130 h131 (fun _ _ _ _ _ _ us hl => match us, hl with | [_, _, _], _ => rfl), a_TooMany_what := h132, a_TooMany_most := h133, x_InvalidName_InvalidName := h134, x_InvalidCircle_InvalidName := h135, x_InvalidCircle_InvalidNumber := h136, x_InvalidCircle_InvalidText := h137, x_InvalidCircle_InvalidCircle := h138, x_InvalidNumber_InvalidName := h139, x_InvalidNumber_InvalidNumber := h140, x_InvalidTie_InvalidName := h141, x_InvalidTie_InvalidNumber := h142, x_InvalidTie_InvalidText := h143, x_InvalidTie_InvalidCircle := h144, x_InvalidTie_InvalidTie := h145, x_InvalidParting_InvalidName := h146, x_InvalidParting_InvalidNumber := h147, x_InvalidParting_InvalidText := h148, x_InvalidParting_InvalidCircle := h149, x_InvalidParting_InvalidTie := h150, x_InvalidParting_InvalidParting := h151, x_TooMany_InvalidName := h152, x_TooMany_InvalidNumber := h153, x_TooMany_InvalidText := h154, x_TooMany_InvalidCircle := h155, x_TooMany_InvalidTie := h156, x_TooMany_InvalidParting := h157, x_TooMany_InvalidCase := h158, x_TooMany_TooMany := h159, x_InvalidText_InvalidName := h160, x_InvalidText_InvalidNumber := h161, x_InvalidText_InvalidText := h162, x_InvalidText_TooMany := h163, x_InvalidCase_InvalidName := h164, x_InvalidCase_InvalidNumber := h165, x_InvalidCase_InvalidText := h166, x_InvalidCase_InvalidCircle := h167, x_InvalidCase_InvalidTie := h168, x_InvalidCase_InvalidParting := h169, x_InvalidCase_InvalidCase := h170, kstop := h171, f_is_number := fnAt_mk X G h172 h173 h174 h175 (fun _ _ _ _ _ _ us hl => match us, hl with | [_, _, _], _ => rfl), f_is_parting := fnAt_mk X G h176 h177 h178 h179 (fun _ _ _ _ _ _ us hl => match us, hl with | [_], _ => rfl), f_is_item := fnAt_mk X G h180 h181 h182 h183 (fun _ _ _ _ _ _ us hl => match us, hl with | [_, _], _ => rfl), f_lots_of := fnAt_mk X G h184 h185 h186 h187 (fun _ _ _ _ _ _ us hl => match us, hl with | [_], _ => rfl), f_meet_of := fnAt_mk X G h188 h189 h190 h191 (fun _ _ _ _ _ _ us hl => match us, hl with | [_, _], _ => rfl), f_join_of := fnAt_mk X G h192 h193 h194 h195 (fun _ _ _ _ _ _ us hl => match us, hl with | [_, _], _ => rfl), f_is_within := fnAt_mk X G h196 h197 h198 h199 (fun _ _ _ _ _ _ us hl => match us, hl with | [_, _], _ => rfl), f_check_partings := fnAt_mk X G h200 h201 h202 h203 (fun _ _ _ _ _ _ us hl => match us, hl with | [_, _], _ => rfl), f_all_partings := fnAt_mk X G h204 h205 h206 h207 (fun _ _ _ _ _ _ us hl => match us, hl with | [_], _ => rfl), f_linked := fnAt_mk X G h208 h209 h210 h211 (fun _ _ _ _ _ _ us hl => match us, hl with | [_, _], _ => rfl), f_by_keys := fnAt_mk X G h212 h213 h214 h215 (fun _ _ _ _ _ _ us hl => match us, hl with | [_], _ => rfl), f_met := fnAt_mk X G h216 h217 h218 h219 (fun _ _ _ _ _ _ us hl => match us, hl with | [_], _ => rfl), f_joined := fnAt_mk X G h220 h221 h222 h223 (fun _ _ _ _ _ _ us hl => match us, hl with | [_], _ => rfl), f_within := fnAt_mk X G h224 h225 h226 h227 (fun _ _ _ _ _ _ us hl => match us, hl with | [_, _], _ => rfl), f_law_bag := fnAt_mk X G h228 h229 h230 h231 (fun _ _ _ _ _ _ us hl => match us, hl with | [_], _ => rfl), f_law_draw := fnAt_mk X G h232 h233 h234 h235 (fun _ _ _ _ _ _ us hl => match us, hl with | [_, _], _ => rfl), f_law_of := fnAt_mk X G h236 h237 h238 h239 (fun _ _ _ _ _ _ us hl => match us, hl with | [_, _], _ => rfl), f_law_same := fnAt_mk X G h240 h241 h242 h243 (fun _ _ _ _ _ _ us hl => match us, hl with | [_, _], _ => rfl), f_law_try := fnAt_mk X G h244 h245 h246 h247 (fun _ _ _ _ _ _ us hl => match us, hl with | [_], _ => rfl), f_law_why := fnAt_mk X G h248 h249 h250 h251 (fun _ _ _ _ _ _ us hl => match us, hl with | [_], _ => rfl), f_law_odd := fnAt_mk X G h252 h253 h254 h255 (fun _ _ _ _ _ _ us hl => match us, hl with | [_, _], _ => rfl), f_law_is_case := fnAt_mk X G h256 h257 h258 h259 (fun _ _ _ _ _ _ us hl => match us, hl with | [_, _], _ => rfl), f_law_is_rows := fnAt_mk X G h260 h261 h262 h263 (fun _ _ _ _ _ _ us hl => match us, hl with | [_], _ => rfl), f_law_merged := fnAt_mk X G h264 h265 h266 h267 (fun _ _ _ _ _ _ us hl => match us, hl with | [_, _], _ => rfl), f_law_met := fnAt_mk X G h268 h269 h270 h271 (fun _ _ _ _ _ _ us hl => match us, hl with | [_, _], _ => rfl), f_law_joined := fnAt_mk X G h272 h273 h274 h275 (fun _ _ _ _ _ _ us hl => match us, hl with | [_, _], _ => rfl), f_law_inner := fnAt_mk X G h276 h277 h278 h279 (fun _ _ _ _ _ _ us hl => match us, hl with | [_, _], _ => rfl), f_law_rows := fnAt_mk X G h280 h281 h282 h283 (fun _ _ _ _ _ _ us hl => match us, hl with | [_, _], _ => rfl), f_law_grown := fnAt_mk X G h284 h285 h286 h287 (fun _ _ _ _ _ _ us hl => match us, hl with | [_], _ => rfl), f_law_count := fnAt_mk X G h288 h289 h290 h291 (fun _ _ _ _ _ _ us hl => match us, hl with | [_], _ => rfl), f_law_listed := fnAt_mk X G h292 h293 h294 h295 (fun _ _ _ _ _ _ us hl => match us, hl with | [_], _ => rfl), f_law := fnAtC_mk X G h296 h297 h298 h299 (fun _ _ _ _ _ _ us hl => match us, hl with | [_], _ => rfl) }, {cA := codeHd_mk X h300 h301 h302 h303 h304 h305 h306 h307 h308 h309, tA := h310, nA := (Option.isNone_iff_eq_none.mp h311) }⟩
theorem fin {l : PySem.W.OpenLaw} {w : World} {K : PySem.W.Frag} {mg : Str → Option Value} {fa : Addr} {h : Heap} (T : ∃ A : Adr, Txt K mg A ∧ Tbs K h A) (hmg : mg "law" = some (.ref fa)) : LamX.LawAtS l w K CX0 29 63 "_law_script" mg fa h := by
  obtain ⟨A, T, B⟩ := T
  obtain ⟨f, oc, od, kV, doc, pm, an, ct, osl, lk, hcd, kp, hb, hm⟩ := T.f_law
  cases hmg.symm.trans hm
  refine ⟨PySem.W.fnOf "law" "law" (defArgs s_law) (defBody s_law) (defScope s_law) .none kV doc pm an (.ref A.cdA) ct, [(A.cdA, A.tbA)], spLaw K (TT A), ?_, ?_, ?_, fun s v => .of_eq rfl, fun H a ns hl _ hT hS => ⟨a, ns, rfl, hS, hl, tabs_new ?_, fun _ => rfl⟩, fun base _ _ TB => ?_⟩
  · intro p hp
    simp only [List.mem_cons, List.not_mem_nil, or_false] at hp
    rcases hp with rfl
    · exact B.tA
  · intro p hp
    simp only [List.mem_cons, List.not_mem_nil, or_false] at hp
    rcases hp with rfl
    · exact B.nA
  · intro p hp
    simp only [List.mem_cons, List.not_mem_nil, or_false] at hp
    rcases hp with rfl
    · exact B.cA
  · intro p hp
    simp only [TT, List.mem_cons, List.not_mem_nil, or_false] at hp
    rcases hp with rfl
    · exact hT (A.cdA, A.tbA) (by simp)
  · obtain ⟨f2, fd2, hm2, F2, _, R⟩ := ok_law (P := l.prog) (w := w) (base := base) T (TB (A.cdA, A.tbA) (by simp))
    cases hm.symm.trans hm2
    obtain ⟨oc2, od2, kV2, doc2, pm2, an2, cdv2, ct2, osl2, rfl, lk2, hcd2⟩ := F2.ex
    cases lk.symm.trans lk2
    exact R
end Eyes
open PySem PySem.W PyProof.Rows
set_option maxHeartbeats 0 in
theorem PySem.Challenge.cw_pooledeyes_k08_all_partings_told_in_orde_holds : PySem.Challenge.rw_pooledeyes_k08_all_partings_told_in_orde.Holds := by
  w_on; o_law; refine EyesHd.headq (by first | assumption | decide +kernel) ?hw ?hc; (case hw => w_witness2)
  delta EyesHd.hk0
  k_fill
  refine LamX.walk_ofTs (l := PySem.Challenge.rw_pooledeyes_k08_all_partings_told_in_orde) (n := 63) (k := 29) (x := "_law_script") (CX := fun _ => L2.CX0) rfl (by decide) EyesHd.lawD_dfl ⟨rfl, by decide, by decide⟩ (fun w h Y => Y.1) ?F (fun _ _ _ _ _ h => h)
  case F =>
    intro w mg fa h Y KX G hmg
    rw [EyesHd.lawD_name] at hmg
    refine' Eyes.fin (Eyes.txt_mk KX G ?h1 ?h2 ?h3 ?h4 ?h5 ?h6 ?h7 ?h8 ?h9 ?h10 ?h11 ?h12 ?h13 ?h14 ?h15 ?h16 ?h17 ?h18 ?h19 ?h20 ?h21 ?h22 ?h23 ?h24 ?h25 ?h26 ?h27 ?h28 ?h29 ?h30 ?h31 ?h32 ?h33 ?h34 ?h35 ?h36 ?h37 ?h38 ?h39 ?h40 ?h41 ?h42 ?h43 ?h44 ?h45 ?h46 ?h47 ?h48 ?h49 ?h50 ?h51 ?h52 ?h53 ?h54 ?h55 ?h56 ?h57 ?h58 ?h59 ?h60 ?h61 ?h62 ?h63 ?h64 ?h65 ?h66 ?h67 ?h68 ?h69 ?h70 ?h71 ?h72 ?h73 ?h74 ?h75 ?h76 ?h77 ?h78 ?h79 ?h80 ?h81 ?h82 ?h83 ?h84 ?h85 ?h86 ?h87 ?h88 ?h89 ?h90 ?h91 ?h92 ?h93 ?h94 ?h95 ?h96 ?h97 ?h98 ?h99 ?h100 ?h101 ?h102 ?h103 ?h104 ?h105 ?h106 ?h107 ?h108 ?h109 ?h110 ?h111 ?h112 ?h113 ?h114 ?h115 ?h116 ?h117 ?h118 ?h119 ?h120 ?h121 ?h122 ?h123 ?h124 ?h125 ?h126 ?h127 ?h128 ?h129 ?h130 ?h131 ?h132 ?h133 ?h134 ?h135 ?h136 ?h137 ?h138 ?h139 ?h140 ?h141 ?h142 ?h143 ?h144 ?h145 ?h146 ?h147 ?h148 ?h149 ?h150 ?h151 ?h152 ?h153 ?h154 ?h155 ?h156 ?h157 ?h158 ?h159 ?h160 ?h161 ?h162 ?h163 ?h164 ?h165 ?h166 ?h167 ?h168 ?h169 ?h170 ?h171 ?h172 ?h173 ?h174 ?h175 ?h176 ?h177 ?h178 ?h179 ?h180 ?h181 ?h182 ?h183 ?h184 ?h185 ?h186 ?h187 ?h188 ?h189 ?h190 ?h191 ?h192 ?h193 ?h194 ?h195 ?h196 ?h197 ?h198 ?h199 ?h200 ?h201 ?h202 ?h203 ?h204 ?h205 ?h206 ?h207 ?h208 ?h209 ?h210 ?h211 ?h212 ?h213 ?h214 ?h215 ?h216 ?h217 ?h218 ?h219 ?h220 ?h221 ?h222 ?h223 ?h224 ?h225 ?h226 ?h227 ?h228 ?h229 ?h230 ?h231 ?h232 ?h233 ?h234 ?h235 ?h236 ?h237 ?h238 ?h239 ?h240 ?h241 ?h242 ?h243 ?h244 ?h245 ?h246 ?h247 ?h248 ?h249 ?h250 ?h251 ?h252 ?h253 ?h254 ?h255 ?h256 ?h257 ?h258 ?h259 ?h260 ?h261 ?h262 ?h263 ?h264 ?h265 ?h266 ?h267 ?h268 ?h269 ?h270 ?h271 ?h272 ?h273 ?h274 ?h275 ?h276 ?h277 ?h278 ?h279 ?h280 ?h281 ?h282 ?h283 ?h284 ?h285 ?h286 ?h287 ?h288 ?h289 ?h290 ?h291 ?h292 ?h293 ?h294 ?h295 ?h296 ?h297 ?h298 ?h299 ?h300 ?h301 ?h302 ?h303 ?h304 ?h305 ?h306 ?h307 ?h308 ?h309 ?h310 ?h311) hmg
    (case h1 => k_is); (case h2 => k_is); (case h3 => k_is); (case h4 => k_is); (case h5 => k_is); (case h6 => k_is)
    (case h7 => k_is); (case h8 => k_is); (case h9 => k_is); (case h10 => k_is); (case h11 => k_is); (case h12 => k_is)
    (case h13 => k_is); (case h14 => k_is); (case h15 => k_is); (case h16 => k_is); (case h17 => k_is); (case h18 => k_is)
    (case h19 => k_is); (case h20 => k_is); (case h21 => k_is); (case h22 => k_is); (case h23 => kernel_rfl); (case h24 => k_is)
    (case h25 => k_is); (case h26 => k_is); (case h27 => k_is); (case h28 => kernel_rfl); (case h29 => k_is); (case h30 => k_is)
    (case h31 => k_is); (case h32 => k_is); (case h33 => k_is); (case h34 => k_is); (case h35 => k_is); (case h36 => k_is)
    (case h37 => kernel_rfl); (case h38 => k_is); (case h39 => k_is); (case h40 => k_is); (case h41 => k_is); (case h42 => kernel_rfl)
    (case h43 => k_is); (case h44 => k_is); (case h45 => k_is); (case h46 => k_is); (case h47 => k_is); (case h48 => k_is)
    (case h49 => k_is); (case h50 => k_is); (case h51 => kernel_rfl); (case h52 => k_is); (case h53 => k_is); (case h54 => k_is)
    (case h55 => k_is); (case h56 => kernel_rfl); (case h57 => k_is); (case h58 => k_is); (case h59 => k_is); (case h60 => k_is)
    (case h61 => k_is); (case h62 => k_is); (case h63 => k_is); (case h64 => k_is); (case h65 => kernel_rfl); (case h66 => k_is)
    (case h67 => k_is); (case h68 => k_is); (case h69 => k_is); (case h70 => kernel_rfl); (case h71 => k_is); (case h72 => k_is)
    (case h73 => k_is); (case h74 => k_is); (case h75 => k_is); (case h76 => k_is); (case h77 => k_is); (case h78 => k_is)
    (case h79 => kernel_rfl); (case h80 => k_is); (case h81 => k_is); (case h82 => k_is); (case h83 => k_is); (case h84 => kernel_rfl)
    (case h85 => k_is); (case h86 => k_is); (case h87 => k_is); (case h88 => k_is); (case h89 => k_is); (case h90 => k_is)
    (case h91 => k_is); (case h92 => k_is); (case h93 => kernel_rfl); (case h94 => k_is); (case h95 => k_is); (case h96 => k_is)
    (case h97 => k_is); (case h98 => kernel_rfl); (case h99 => k_is); (case h100 => k_is); (case h101 => k_is); (case h102 => k_is)
    (case h103 => k_is); (case h104 => k_is); (case h105 => k_is); (case h106 => k_is); (case h107 => kernel_rfl); (case h108 => k_is)
    (case h109 => k_is); (case h110 => k_is); (case h111 => k_is); (case h112 => kernel_rfl); (case h113 => k_is); (case h114 => k_is)
    (case h115 => k_is); (case h116 => k_is); (case h117 => k_is); (case h118 => k_is); (case h119 => k_is); (case h120 => k_is)
    (case h121 => kernel_rfl); (case h122 => k_is); (case h123 => k_is); (case h124 => k_is); (case h125 => k_is); (case h126 => kernel_rfl)
    (case h127 => k_is); (case h128 => k_is); (case h129 => k_is); (case h130 => k_is); (case h131 => k_is); (case h132 => k_is)
    (case h133 => k_is); (case h134 => kernel_rfl); (case h135 => kernel_rfl); (case h136 => kernel_rfl); (case h137 => kernel_rfl); (case h138 => kernel_rfl)
    (case h139 => kernel_rfl); (case h140 => kernel_rfl); (case h141 => kernel_rfl); (case h142 => kernel_rfl); (case h143 => kernel_rfl); (case h144 => kernel_rfl)
    (case h145 => kernel_rfl); (case h146 => kernel_rfl); (case h147 => kernel_rfl); (case h148 => kernel_rfl); (case h149 => kernel_rfl); (case h150 => kernel_rfl)
    (case h151 => kernel_rfl); (case h152 => kernel_rfl); (case h153 => kernel_rfl); (case h154 => kernel_rfl); (case h155 => kernel_rfl); (case h156 => kernel_rfl)
    (case h157 => kernel_rfl); (case h158 => kernel_rfl); (case h159 => kernel_rfl); (case h160 => kernel_rfl); (case h161 => kernel_rfl); (case h162 => kernel_rfl)
    (case h163 => kernel_rfl); (case h164 => kernel_rfl); (case h165 => kernel_rfl); (case h166 => kernel_rfl); (case h167 => kernel_rfl); (case h168 => kernel_rfl)
    (case h169 => kernel_rfl); (case h170 => kernel_rfl); (case h171 => kernel_rfl); (case h172 => k_is); (case h173 => k_is); (case h174 => k_is)
    (case h175 => k_is); (case h176 => k_is); (case h177 => k_is); (case h178 => k_is); (case h179 => k_is); (case h180 => k_is)
    (case h181 => k_is); (case h182 => k_is); (case h183 => k_is); (case h184 => k_is); (case h185 => k_is); (case h186 => k_is)
    (case h187 => k_is); (case h188 => k_is); (case h189 => k_is); (case h190 => k_is); (case h191 => k_is); (case h192 => k_is)
    (case h193 => k_is); (case h194 => k_is); (case h195 => k_is); (case h196 => k_is); (case h197 => k_is); (case h198 => k_is)
    (case h199 => k_is); (case h200 => k_is); (case h201 => k_is); (case h202 => k_is); (case h203 => k_is); (case h204 => k_is)
    (case h205 => k_is); (case h206 => k_is); (case h207 => k_is); (case h208 => k_is); (case h209 => k_is); (case h210 => k_is)
    (case h211 => k_is); (case h212 => k_is); (case h213 => k_is); (case h214 => k_is); (case h215 => k_is); (case h216 => k_is)
    (case h217 => k_is); (case h218 => k_is); (case h219 => k_is); (case h220 => k_is); (case h221 => k_is); (case h222 => k_is)
    (case h223 => k_is); (case h224 => k_is); (case h225 => k_is); (case h226 => k_is); (case h227 => k_is); (case h228 => k_is)
    (case h229 => k_is); (case h230 => k_is); (case h231 => k_is); (case h232 => k_is); (case h233 => k_is); (case h234 => k_is)
    (case h235 => k_is); (case h236 => k_is); (case h237 => k_is); (case h238 => k_is); (case h239 => k_is); (case h240 => k_is)
    (case h241 => k_is); (case h242 => k_is); (case h243 => k_is); (case h244 => k_is); (case h245 => k_is); (case h246 => k_is)
    (case h247 => k_is); (case h248 => k_is); (case h249 => k_is); (case h250 => k_is); (case h251 => k_is); (case h252 => k_is)
    (case h253 => k_is); (case h254 => k_is); (case h255 => k_is); (case h256 => k_is); (case h257 => k_is); (case h258 => k_is)
    (case h259 => k_is); (case h260 => k_is); (case h261 => k_is); (case h262 => k_is); (case h263 => k_is); (case h264 => k_is)
    (case h265 => k_is); (case h266 => k_is); (case h267 => k_is); (case h268 => k_is); (case h269 => k_is); (case h270 => k_is)
    (case h271 => k_is); (case h272 => k_is); (case h273 => k_is); (case h274 => k_is); (case h275 => k_is); (case h276 => k_is)
    (case h277 => k_is); (case h278 => k_is); (case h279 => k_is); (case h280 => k_is); (case h281 => k_is); (case h282 => k_is)
    (case h283 => k_is); (case h284 => k_is); (case h285 => k_is); (case h286 => k_is); (case h287 => k_is); (case h288 => k_is)
    (case h289 => k_is); (case h290 => k_is); (case h291 => k_is); (case h292 => k_is); (case h293 => k_is); (case h294 => k_is)
    (case h295 => k_is); (case h296 => k_is); (case h297 => k_is); (case h298 => k_is); (case h299 => k_is); (case h300 => k_is)
    (case h301 => rfl); (case h302 => rfl); (case h303 => rfl); (case h304 => rfl); (case h305 => rfl); (case h306 => rfl)
    (case h307 => rfl); (case h308 => rfl); (case h310 => exact Y.2 _ (by decide)); (case h311 => kernel_rfl); (case h309 => decide +kernel)

