import PyProof.Rows.All
import Wide.All
import OpenK.AllK
import Wide.FinOn
import HandS.HeadHook4
import HandS.Head0
import HandS.Head1
import HandS.Head2
import HandS.ForMost
import HandS.IsInst
import HandS.Style
import HandS.Evl
import HandS.Defaults
import HandS.Walk
import HandS.Zip
import HandS.ClsMeth
import HandS.Deep
import HandS.ListEq
import HandS.DeepEq
import HandS.Base
import HandS.Call
import HandS.Dict
import HandS.More
import HandS.RaiseMore
import KE.KFmtOwn
import KE.KDictList
import HandS.FStr
import HandS.Small
import HandS.Conv
import PyProof.ListRange
import HandS.MakeKwOnly
import HandS.MakeKw
import PyProof.Rows.StrMeet
import HandS.Exc
import HandS.TryMany
import HandS.ExcField
import HandS.ExcInit
import HandS.ExcOwn
import HandS.WordsExc
import HandS.Lambda
import HandS.EndTab
import HandS.Star
import KE.GoesEnum
import HandS.Set
import HandS.Strs
import PyProof.Rows.SetFrom
import KE.GoesEnumKw
import HandS.SetKeys
import PyProof.DictMoreH
import HandS.TupAny
import KE.KDictZip
import KE.KStar
import HandS.TupMul
import HandS.SetFor
import PyProof.Rows.SortStr
import HandS.DictComp
import HandS.Comp
import KE.KUnpackStar
import HandS.Text
import HandS.ExcValue
import KE.KIntText
import KE.IntTextText
import HandS.ReplaceList
import HandS.ReplaceLit
import PySem.Challenge.RW_pooledeyes_k11_world_texts_read_back
set_option Elab.async false
set_option linter.all false
set_option maxRecDepth 100000
/-! The head by one kernel run, ahead of all else: it wants the memory that the rest would hold. -/
namespace EyesHd
open PySem PySem.Spec PyProof.Rows L2
section
local macro_rules | `(tactic| o_head $H:term) => `(tactic| exact False.elim (by assumption))
set_option maxHeartbeats 0 in
theorem k0 (hf : False) : PySem.Challenge.rw_pooledeyes_k11_world_texts_read_back.Holds := by
  w_on; o_law; k_head
end
abbrev RWo : PySem.W.OpenRow := PySem.W.OpenLaw.row PySem.Challenge.rw_pooledeyes_k11_world_texts_read_back
def lawI : Nat := 65
def hq : Program := PySem.W.view RWo.prog [lawI]
def nm0 : List Str := [("_wall" : Str), ("PooledError" : Str), ("InvalidName" : Str), ("InvalidNumber" : Str), ("InvalidText" : Str), ("InvalidCircle" : Str), ("InvalidTie" : Str), ("InvalidParting" : Str), ("InvalidCase" : Str), ("TooMany" : Str), ("Missing" : Str), ("LETTERS" : Str), ("MOST_LETTERS" : Str), ("is_name" : Str), ("is_number" : Str), ("is_parting" : Str), ("is_item" : Str), ("apart" : Str), ("linked" : Str), ("by_keys" : Str)]
def nm1 : List Str := [("met" : Str), ("joined" : Str), ("within" : Str), ("beside" : Str), ("check_names" : Str), ("check_cases" : Str), ("check_many" : Str), ("check_ties" : Str), ("is_tie" : Str), ("is_parting_to" : Str), ("tied_partings" : Str), ("counting" : Str), ("read_many" : Str), ("read_parting" : Str), ("World" : Str), ("world_with" : Str), ("_law_bag" : Str), ("_law_draw" : Str), ("_law_of" : Str), ("_law_same" : Str)]
def nm2 : List Str := [("_law_try" : Str), ("_law_title" : Str), ("_law_titles" : Str), ("_law_is_title" : Str), ("_law_is_case" : Str), ("_law_is_rows" : Str), ("_law_alone" : Str), ("_law_merged" : Str), ("_law_rows" : Str), ("_law_views" : Str), ("_law_seen" : Str), ("_law_knots" : Str), ("_law_chapter" : Str), ("_law_world_so" : Str), ("_law_many" : Str), ("_law_eye_row" : Str), ("_law_reader" : Str), ("_law_text_so" : Str), ("_law_line" : Str), ("_law_bent" : Str)]
def nms : List Str := nm0 ++ nm1 ++ nm2
def lawD : DefRec := HandSHeadRun.topDef RWo.prog lawI
theorem lawD_name : lawD.name = ("law" : Str) := by kernel_rfl
theorem lawD_dfl : lawD.params.defaults = [] := by kernel_rfl
def as0 : List Addr := [2, 3, 15, 17, 18, 20, 21, 22, 29, 30, 31, 32, 35, 42, 44, 45, 47, 48, 49, 50, 51, 54, 61, 63, 64, 66, 67, 68, 69, 70, 73, 80, 82, 83, 85, 86, 87, 88, 89, 92, 99, 101, 102, 104, 105, 106, 107, 108, 111, 118, 120, 121, 123, 124, 125, 126, 127, 130, 137, 139, 140, 142, 143, 144, 145, 146, 149, 156, 158, 159, 161, 162, 163, 164, 165, 168, 175, 177, 178, 180, 181, 182, 183, 184, 187, 194, 195, 196, 197, 200, 203, 204, 205, 207, 208, 210, 211, 212, 215, 216, 217, 219, 220, 222, 223, 224, 226, 227, 229, 230, 231, 233, 234, 236, 237, 238, 240, 241, 243, 244, 245, 247, 248, 250, 251, 252, 255, 256, 257, 260, 261, 262, 265, 266, 267, 269, 270, 272, 273, 274, 276, 277, 279, 280, 281, 283, 284, 286, 287, 288, 290, 291, 293, 294, 295, 297, 298, 300, 301, 302, 304, 305, 307, 308, 309, 312, 313, 314, 317, 318, 319, 322, 323, 324, 327, 328, 336, 337, 338, 340, 341, 343, 344, 345, 347, 348, 350, 351, 352, 353, 354, 355, 357, 358, 360, 361, 362, 363, 364, 365, 367, 368, 370, 371, 372, 374, 375, 377, 378, 379, 381, 382, 384, 385, 386, 389, 390, 391, 393, 394, 396, 397, 398, 400, 401, 403, 404, 405, 407, 408, 410, 411, 412, 414, 415, 417, 418, 419, 421, 422, 424, 425, 426, 429, 430, 431, 434, 435, 436, 438, 439, 441, 442, 443, 445, 446, 448, 449, 450, 452, 453, 455, 456, 457, 459, 460, 462, 463, 464, 465, 466, 467, 468, 471, 473, 474, 476, 477, 478, 480, 481, 483, 484, 485, 487, 488, 490, 491, 492, 494, 495, 497, 498, 499, 502, 503, 504, 506, 507, 509, 510, 511, 514, 515, 516, 519, 520, 521, 524, 525, 526, 528, 529, 531, 532, 533, 535, 536, 538, 539, 540, 542, 543, 545, 546, 547, 550, 551, 552, 554, 555, 557, 558, 559, 561, 562, 564, 565, 566, 568, 569, 571, 572, 573, 575, 576, 578, 579, 580, 583, 584, 585, 587, 588, 590, 591, 592, 595, 596, 597, 600, 601, 602, 604, 605, 607, 608, 609, 611, 612, 614, 615, 616, 619, 620, 621, 623, 624, 626, 627, 628, 631, 632]
noncomputable abbrev hk0 : PySem.W.Hook := PySem.W.kmHook EyesHd.k0.heap_39 as0 (fun _ => by kernel_rfl) [610]
noncomputable def ob0 (s : PySem.W.SharedT) : hk0.α := (as0.map (HandSHeadRun.getT s), [610].map (HandSHeadRun.getT s))
set_option maxHeartbeats 0 in
theorem run0 (w : World) : HandSHeadRun.RunEq RWo hq hk0 ob0 20000 nms w := by
  intro os
  kernel_rfl
set_option maxHeartbeats 0 in
theorem headq (k1 : RWo.wellSaid = true) (hw : RWo.toRowW.promised) (hc : PySem.W.WalkO hq nms (PySem.W.XL hq []) hk0.says RWo.toRowW lawD [] (fun f vs => PySem.call f vs)) : RWo.Holds :=
  HandSHeadRun.head_any (r := RWo) (q := hq) (H := hk0) (ob := ob0) (M := 20000) (loose := nms) (d := lawD) (kwd := [])
    (fun s => by unfold ob0; rw [show HandSHeadRun.getT s = s.abs.heap.get? from funext (HandSHeadRun.getT_eq s)]; rfl) (by kernel_rfl) (fun s => by kernel_rfl) run0 (by kernel_rfl) (by kernel_rfl) (by kernel_rfl) (by rfl) k1 (by decide +kernel) ⟨rfl, rfl, rfl, rfl, rfl, by decide +kernel⟩ hw hc
end EyesHd

set_option Elab.async false
set_option linter.all false
set_option maxRecDepth 100000
set_option maxHeartbeats 4000000
/-! My own short words: a def of the text with its promise, calls of it. -/
namespace Eyes
open PySem PySem.Spec PyProof.Rows L2
def FnAt (K : PySem.W.Frag) (mg : Str → Option Value) (x : Str) (st : Stmt) (ps : List Str) : Prop :=
  ∃ (f : Addr) (fd : FuncData), Fun K x x st f fd ∧ Binds K fd ps [] ∧ mg x = some (.ref f)
def Pr (P : Program) (w : World) (K : PySem.W.Frag) (mg : Str → Option Value) (base : Heap) (x : Str) (st : Stmt) (ps : List Str) (k : Nat) (sp : Sp) : Prop :=
  ∃ (f : Addr) (fd : FuncData), mg x = some (.ref f) ∧ Fun K x x st f fd ∧ Binds K fd ps [] ∧ FnOk P w K mg base CX0 k f fd ps sp
def InitAt (K : PySem.W.Frag) (C : Addr) (qual : Str) (st : Stmt) (ps : List Str) : Prop :=
  ∃ (f : Addr) (fd : FuncData), Mk K C f ∧ Fun K "__init__" qual st f fd ∧ Binds K fd ps []
def PrI (P : Program) (w : World) (K : PySem.W.Frag) (mg : Str → Option Value) (base : Heap) (C : Addr) (ps : List Str) (k : Nat) (sp : Sp) : Prop :=
  ∃ (f : Addr) (fd : FuncData), Mk K C f ∧ Binds K fd ps [] ∧ FnOk P w K mg base CX0 k f fd ps sp
def MethAt (K : PySem.W.Frag) (C : Addr) (m qual : Str) (st : Stmt) (ps : List Str) : Prop :=
  ∃ (f : Addr) (fd : FuncData), Meth K C m f ∧ Fun K m qual st f fd ∧ Binds K fd ps []
def PrM (P : Program) (w : World) (K : PySem.W.Frag) (mg : Str → Option Value) (base : Heap) (C : Addr) (m : Str) (ps : List Str) (k : Nat) (sp : Sp) : Prop :=
  ∃ (f : Addr) (fd : FuncData), Meth K C m f ∧ Binds K fd ps [] ∧ FnOk P w K mg base CX0 k f fd ps sp
theorem kit_own {K : PySem.W.Frag} {C : Addr} {T : String} (h : PySem.W.subIn K (.ref C) (.type T) = some false) (m : PySem.W.kitMeta T = true) : PySem.W.kitOne K (.ref C) (.type T) = some false := by
  unfold PySem.W.kitOne
  have e : (Value.ref C == Value.type T) = false := rfl
  rw [e]
  show (if PySem.W.kitMeta T = true then PySem.W.subIn K (.ref C) (.type T) else none) = some false
  rw [if_pos m]
  exact h
structure ClsY (K : PySem.W.Frag) (C : Addr) : Prop where
  ty1 : PySem.W.findIn K (.ref C) "__class__" = some (some (.builtin "object.__class__"))
  ty2 : PySem.W.specialIn K (.builtin "object.__class__") "__get__" = some (some (.builtin "getset_descriptor.__get__"))
  ty3 : PySem.W.takesIn K (.builtin "object.__class__") = some true
  ty4 : PySem.W.mroIn K C (.type "object") = some true
  k_str : PySem.W.kitOne K (.ref C) (.type "str") = some false
  k_int : PySem.W.kitOne K (.ref C) (.type "int") = some false
  k_bool : PySem.W.kitOne K (.ref C) (.type "bool") = some false
  k_list : PySem.W.kitOne K (.ref C) (.type "list") = some false
  k_tuple : PySem.W.kitOne K (.ref C) (.type "tuple") = some false
  k_dict : PySem.W.kitOne K (.ref C) (.type "dict") = some false
section
variable {P : Program} {w : World} {K : PySem.W.Frag} {mg : Str → Option Value} {base : Heap}
abbrev BindH (x qual : Str) (st : Stmt) (ps : List Str) : Prop := ∀ (kV doc pm : Value) (an : Option Addr) (cdv ct : Value) (us : List Value), us.length = ps.length → bindArgs (PySem.W.fnOf x qual (defArgs st) (defBody st) (defScope st) .none kV doc pm an cdv ct) ⟨us, []⟩ = pure (ps.zip us)
theorem fnAt_mk {h : Heap} (X : K.In h) (G : h.Ns mainGlobals mg) {x : Str} {st : Stmt} {ps : List Str} {f : Addr} {oc : Value} {od an : Option Addr} {osl : Array (Option Value)} {kV doc pm cdv ct : Value} (a : PySem.W.nsIn K mainGlobals x = some (some (.ref f)))
    (l : K.lookup f = some ⟨oc, od, .func (PySem.W.fnOf x x (defArgs st) (defBody st) (defScope st) .none kV doc pm an cdv ct), osl⟩) (c : PySem.W.codeIn K cdv x = true) (k : PySem.W.keepIn K (.ref f) = true) (hb : BindH x x st ps) : FnAt K mg x st ps :=
  ⟨f, _, fun_mk l c k, (fun_mk l c k).binds hb, PySem.W.mg_of X G a⟩
theorem methAt_mk {C : Addr} {m qual : Str} {st : Stmt} {ps : List Str} {f : Addr} {oc : Value} {od an : Option Addr} {osl : Array (Option Value)} {kV doc pm cdv ct : Value}
    (a : PySem.W.findIn K (.ref C) m = some (some (.ref f))) (i : PySem.W.isFn K (.ref f) = true) (l : K.lookup f = some ⟨oc, od, .func (PySem.W.fnOf m qual (defArgs st) (defBody st) (defScope st) .none kV doc pm an cdv ct), osl⟩)
    (c : PySem.W.codeIn K cdv qual = true) (k : PySem.W.keepIn K (.ref f) = true) (hb : BindH m qual st ps) : MethAt K C m qual st ps :=
  ⟨f, _, ⟨a, i, k⟩, fun_mk l c k, (fun_mk l c k).binds hb⟩
theorem pr_mk {x : Str} {st : Stmt} {N ps : List Str} {k : Nat} {sp : Sp} (A : FnAt K mg x st ps) (S : FnScope N ps (defScope st)) (len : ∀ vs H Q E, sp vs H Q E → vs.length = ps.length)
    (hbody : ∀ (f : Addr) (cdv : Value) (A : Around) (outer : List Env) (s : Shared) (H : Hp) (vs : List V) (Q : VK) (E : XK), Room k (A.deeper (envOfC x (defScope st) s.heap.objs.size f cdv)) → sp vs H Q E →
      ∃ t, PSs (cxOf CX0 P w K mg base N x (defScope st) f cdv A outer s H E).nox (defBody st) t ∧ t { nx := fun _ H' => Q .non H', rt := Q } (start N vs) H) : Pr P w K mg base x st ps (k + 1) sp := by
  obtain ⟨f, fd, F, hb, hm⟩ := A
  exact ⟨f, fd, hm, F, hb, F.ok S len fun cdv A outer s H vs Q E hr h => hbody f cdv A outer s H vs Q E hr h⟩
theorem prm_mk {C : Addr} {m qual : Str} {st : Stmt} {N ps : List Str} {k : Nat} {sp : Sp} (A : MethAt K C m qual st ps) (S : FnScope N ps (defScope st)) (len : ∀ vs H Q E, sp vs H Q E → vs.length = ps.length)
    (hbody : ∀ (f : Addr) (cdv : Value) (A : Around) (outer : List Env) (s : Shared) (H : Hp) (vs : List V) (Q : VK) (E : XK), Room k (A.deeper (envOfC qual (defScope st) s.heap.objs.size f cdv)) → sp vs H Q E →
      ∃ t, PSs (cxOf CX0 P w K mg base N qual (defScope st) f cdv A outer s H E).nox (defBody st) t ∧ t { nx := fun _ H' => Q .non H', rt := Q } (start N vs) H) : PrM P w K mg base C m ps (k + 1) sp := by
  obtain ⟨f, fd, hm, F, hb⟩ := A
  exact ⟨f, fd, hm, hb, F.ok S len fun cdv A outer s H vs Q E hr h => hbody f cdv A outer s H vs Q E hr h⟩
end
def pick {α : Type} (is : List Nat) (xs : List α) : List α := is.filterMap fun i => xs[i]?
theorem pick_vals {vs : List V} {us : List Value} (r : Vals vs us) : ∀ is : List Nat, Vals (pick is vs) (pick is us)
  | [] => .nil
  | i :: is => by
    unfold pick
    rw [List.filterMap_cons, List.filterMap_cons]
    cases h : vs[i]? with
    | none =>
      rw [r.none_of h]
      exact pick_vals r is
    | some v =>
      obtain ⟨u, hu, rv⟩ := r.get h
      rw [hu]
      exact .cons rv (pick_vals r is)
section
variable {X : Cx} {x : Str} {st : Stmt} {ps : List Str} {sp : Sp} {e : Expr} {es : List Expr} {kws : List Keyword} {p pos : Pos} {t tk : TA}
theorem pcall {j k : Nat} (G : Pr X.prog X.w X.K X.mg X.base x st ps j sp) (hr : Room k X.A) (ha : PA X (e :: es) t) (hj : j ≤ k := by first | decide | omega) (hg : Gl X x := by rfl)
    (hdb : (x == ("__debug__" : Str)) = false := by decide) (he : starEach (e :: es) X.env = (false, eval e X.env) :: starEach es X.env := by rfl) (hpl : (backTo pos (starEach es X.env)).any (·.1) = false := by rfl) :
    PE X (.Call (.Name x p) (e :: es) [] pos) (tCall sp [] (fun _ _ _ => False) t) := by
  obtain ⟨f, fd, hm, F0, hb, F⟩ := G
  exact pe_call F (hr.mono hj) hg hm F0.kp hb .nil (fun _ _ _ _ _ _ _ h => h.elim) ha hdb he hpl
def KwOk (x : Str) (st : Stmt) (ps : List Str) (n : Nat) (ks : List Str) (is : List Nat) : Prop :=
  ∀ (kV doc pm : Value) (an : Option Addr) (cdv ct : Value) (us ws : List Value), us.length = n → ws.length = ks.length → bindArgs (PySem.W.fnOf x x (defArgs st) (defBody st) (defScope st) .none kV doc pm an cdv ct) ⟨us, ks.zip ws⟩ = pure (ps.zip (pick is (us ++ ws)))
theorem pgI {i : Int} (h : ∃ t, X.mg x = some (.int i t)) (hg : Gl X x := by rfl) (hd : (x == ("__debug__" : Str)) = false := by decide) : PE X (.Name x p) (tC (.int i)) := by
  obtain ⟨t, h⟩ := h
  exact pe_glob hg h ⟨t, rfl⟩ hd
theorem pgS {z : Str} (h : ∃ t, X.mg x = some (.str z t)) (hg : Gl X x := by rfl) (hd : (x == ("__debug__" : Str)) = false := by decide) : PE X (.Name x p) (tC (.str z)) := by
  obtain ⟨t, h⟩ := h
  exact pe_glob hg h ⟨t, rfl⟩ hd
end
end Eyes

set_option Elab.async false
set_option linter.all false
set_option maxRecDepth 100000
set_option maxHeartbeats 4000000
/-! Displays with a dict in them: {**a, k: v} and {**a, **b}. -/
namespace Mrg
open PySem
open Sem (wp)
section
variable {prog : Program} {w : World} {K : Type} [DecidableEq K] {knd : KeyKind prog w K} {A : Around} {E : Value → Shared → Prop} {s : Shared}
end
end Mrg

set_option Elab.async false
set_option linter.all false
set_option maxRecDepth 100000
set_option maxHeartbeats 4000000
/-! The rules for {**a, k: v} and {**a, **b}; static methods off a class. -/
namespace Eyes
open PySem PySem.Spec PyProof.Rows L2
def tMrg2 (ta tb : TE) : TE := fun σ H Q => ∀ p, H p = none → ta σ (upd H p (.dK [])) fun x H1 => H1 p = some (.dK []) ∧ ∃ (a : Addr) (kvs : List (Key × V)), x = .ref a ∧ p ≠ a ∧ Rd H1 a (.dK kvs) ∧ kvs.length < 1000000 ∧
  tb σ (upd H1 p (.dK (mergeK [] kvs))) fun y H2 => H2 p = some (.dK (mergeK [] kvs)) ∧ ∃ (b : Addr) (more : List (Key × V)), y = .ref b ∧ p ≠ b ∧ Rd H2 b (.dK more) ∧ more.length < 1000000 ∧
  Q (.ref p) (upd H2 p (.dK (mergeK (mergeK [] kvs) more)))
def tMrg1 (ta tk tv : TE) : TE := fun σ H Q => ∀ p, H p = none → ta σ (upd H p (.dK [])) fun x H1 => H1 p = some (.dK []) ∧ ∃ (a : Addr) (kvs : List (Key × V)), x = .ref a ∧ p ≠ a ∧ Rd H1 a (.dK kvs) ∧ kvs.length < 1000000 ∧
  ∀ p2, p2 ≠ p → H1 p2 = none → tk σ (upd (upd H1 p (.dK (mergeK [] kvs))) p2 (.dK [])) fun y H2 => tv σ H2 fun z H3 => H3 p2 = some (.dK []) ∧ H3 p = some (.dK (mergeK [] kvs)) ∧ ∃ k : Key, y = kV k ∧
  Q (.ref p) (upd (upd H3 p2 (.dK [(k, z)])) p (.dK (putK (mergeK [] kvs) k z)))
section
variable {X : Cx} {pins : List (Addr × Obj)} {σ : L2.St} {H : Hp} {s : Shared} {A : Around} {E : Value → Shared → Prop}
end
section
variable {X : Cx} {pos : Pos} {a b k v : Expr} {ta tb tk tv : TE}
end
structure CSta (K : PySem.W.Frag) (C : Addr) (mc : Value) (m : Str) (p g : Addr) : Prop where
  at_ : PySem.W.findCls K (.ref C) mc m = some (.get (.builtin "staticmethod.__get__") (.ref p) .none (.ref C))
  rc : ∃ rest, PySem.W.recIn K p "staticmethod" = some (.ref g :: rest)
  kp : PySem.W.keepIn K (.ref g) = true
def StaAt (K : PySem.W.Frag) (C : Addr) (m qual : Str) (st : Stmt) (ps : List Str) : Prop :=
  ∃ (mc : Value) (p f : Addr) (fd : FuncData), ClX.CRead K C mc ∧ CSta K C mc m p f ∧ Fun K m qual st f fd ∧ Binds K fd ps []
def PrSta (P : Program) (w : World) (K : PySem.W.Frag) (mg : Str → Option Value) (base : Heap) (C : Addr) (m : Str) (ps : List Str) (k : Nat) (sp : Sp) : Prop :=
  ∃ (mc : Value) (p f : Addr) (fd : FuncData), ClX.CRead K C mc ∧ CSta K C mc m p f ∧ Binds K fd ps [] ∧ FnOk P w K mg base CX0 k f fd ps sp
theorem staAt_mk {K : PySem.W.Frag} {C : Addr} {m qual : Str} {st : Stmt} {ps : List Str} {f p : Addr} {rs : List Value} {oc : Value} {od an : Option Addr} {osl : Array (Option Value)} {kV doc pm cdv ct : Value}
    (r : PySem.W.readsIn K C (.type "type") = true) (ga : PySem.W.specialIn K (.ref C) "__getattribute__" = some (some (.builtin "type.__getattribute__")))
    (a : PySem.W.findCls K (.ref C) (.type "type") m = some (.get (.builtin "staticmethod.__get__") (.ref p) .none (.ref C))) (rc : PySem.W.recIn K p "staticmethod" = some (.ref f :: rs))
    (l : K.lookup f = some ⟨oc, od, .func (PySem.W.fnOf m qual (defArgs st) (defBody st) (defScope st) .none kV doc pm an cdv ct), osl⟩)
    (c : PySem.W.codeIn K cdv qual = true) (k : PySem.W.keepIn K (.ref f) = true) (hb : BindH m qual st ps) : StaAt K C m qual st ps :=
  ⟨.type "type", p, f, _, ⟨r, ga⟩, ⟨a, ⟨rs, rc⟩, k⟩, fun_mk l c k, (fun_mk l c k).binds hb⟩
section
variable {P : Program} {w : World} {K : PySem.W.Frag} {mg : Str → Option Value} {base : Heap}
end
def tSta (C : Addr) (sp : Sp) (ta : TE) (t : TA) : TE := fun σ H Q => ta σ H fun x H1 => x = .ref C ∧ t σ H1 fun vs H2 => sp vs H2 Q (fun _ _ _ => False)
section
variable {X : Cx} {C : Addr} {j k : Nat} {ps : List Str} {sp : Sp} {m : Str} {o e : Expr} {es : List Expr} {apos pos : Pos} {ta : TE} {t : TA}
theorem psta {pl : Sem Bool} (G : PrSta X.prog X.w X.K X.mg X.base C m ps j sp) (hr : Room k X.A) (he : PE X o ta) (ha : PA X (e :: es) t) (hj : j ≤ k := by first | decide | omega)
    (hst : starEach (e :: es) X.env = (false, eval e X.env) :: starEach es X.env := by rfl) (hpl : (backTo pos (starEach es X.env)).any (·.1) = false := by rfl)
    (ht : eval (.Call (.Attribute o m apos) (e :: es) [] pos) X.env = (do
      let ov ← eval o X.env
      standAt apos.atName
      let (f, first) ← holding [ov] (getMethod ov m pl)
      callWith pos f first (backTo pos (starEach (e :: es) X.env)) (backToKw pos (keywordEach [] X.env))) := by rfl) :
    PE X (.Call (.Attribute o m apos) (e :: es) [] pos) (tSta C sp ta t) := by
  obtain ⟨mc, p, f, fd, r, a, hb, F⟩ := G
  refine ⟨fun pins s σ H Q I h => ?_⟩
  refine PySem.W.methodCall_KW (pl := pl) (thn (he.run pins s σ H _ I h) fun u s1 ⟨x, H1, I1, rx, ex, q⟩ => ?_) ht
  subst ex
  obtain rfl : u = Value.ref C := rx
  obtain ⟨rest, hp⟩ := a.rc
  refine PySem.W.method_cls I1.kIn r.ga (PySem.W.cls_bind I1.kIn r.rd a.at_ (wpAny_call (PySem.W.sm_get (s := { s1 with toks := s1.toks + 1 }) I1.kIn hp (PySem.W.handed_on rfl ?_))))
  have I2 : Inv X pins σ H1 { s1 with toks := s1.toks + 1 } := I1.tok _
  refine PySem.W.callWith_K (first := []) (h₀ := X.base) I.ok.mod.kin a.kp (thn (ha.run pos pins _ σ H1 _ I2 q) fun us s2 ⟨vs, H2, I3, rv, q2⟩ => ⟨I3.kIn, ?_⟩) hst hpl
  have q3 : sp (vs ++ []) H2 Q (fun _ _ _ => False) := by rwa [List.append_nil]
  exact run_fn (us := us) (vs := vs) F (hr.mono hj) hb .nil (fun _ _ _ _ _ _ _ h => h.elim) I3 rv q3
end
end Eyes

set_option Elab.async false
set_option linter.all false
set_option maxRecDepth 100000
set_option maxHeartbeats 4000000
/-! Rules of my own: operators, str() and f-strings of own instances; list(d.values()). -/
namespace Eyes
open PySem PySem.Spec PyProof.Rows L2
section
variable {X : Cx} {CX : CXT} {k : Nat} {f : Addr} {fd : FuncData} {ps : List Str} {sp : Sp} {E : XK}
theorem run_at (F : FnOk X.prog X.w X.K X.mg X.base CX k f fd ps sp) (hb : Binds X.K fd ps []) (hx : Passes CX X E) {A : Around} (hr : Room k A) (hfr : A.frames = X.A.frames) {pins : List (Addr × Obj)} {σ : L2.St} {H : Hp} {s : Shared} {vs : List V} {us : List Value} {Q : VK}
    {R : Value → Shared → Prop} (I : Inv X pins σ H s) (r : Vals vs us) (h : sp vs H Q E) (hq : ∀ v u s' H', Inv X pins σ H' s' → RelV v u → Q v H' → R u s') : wpAny (model X.prog X.w) A (call (.ref f) us) R X.xe s := by
  have e0 : Env0 X.prog X.w X.K X.mg X.base A X.stack s H := by
    have e := I.env0
    exact ⟨by rw [hfr]; exact e.frames, e.mod, e.bs, e.bsz, e.funs, e.frf, e.hok, e.bare⟩
  have hl := F.len _ _ _ _ h
  have hlu : us.length = ps.length := r.length.symm.trans hl
  refine wpAny_call (codeAny_mono (F.run A X.stack s H ⟨us, []⟩ us vs Q E hr e0 (by
    have := hb s us I.kIn (by simpa using hlu)
    simpa using this) r h) fun r s' hq' => ?_)
  cases r with
  | error e => exact hx pins σ H s e s' I hq'
  | ok fl =>
    cases fl with
    | ret w =>
      obtain ⟨z, H', I', rz, ez⟩ := I.after hq'
      exact hq z w s' H' I' rz ez
    | next => exact False.elim hq'
    | brk => exact False.elim hq'
    | cont => exact False.elim hq'
end
theorem cmpBack_of {v : V} {u : Value} {s : Shared} {Q : Value → Shared → Prop} (r : RelV v u) (q : Q u s) : PySem.W.CmpBack Q u s := by
  cases v with
  | non => cases (show u = Value.none from r); exact q
  | bl b => cases (show u = Value.bool b from r); exact q
  | int i => obtain ⟨t, rfl⟩ := r; exact q
  | str i => obtain ⟨t, rfl⟩ := r; exact q
  | byt i => obtain ⟨t, rfl⟩ := r; exact q
  | flt i => obtain ⟨t, rfl⟩ := r; exact q
  | ref a => cases (show u = Value.ref a from r); exact q
  | ty n => cases (show u = Value.type n from r); exact q
def rOwnB (C : Addr) (sp : Sp) : R2 := fun x y H Q => ∃ a b dx dy fs gs, x = .ref a ∧ y = .ref b ∧ H a = some (.ins C dx fs) ∧ H b = some (.ins C dy gs) ∧ sp [.ref a, .ref b] H Q (fun _ _ _ => False)
def rOwnStr (C : Addr) (sp : Sp) : List V → Hp → VK → Prop := fun xs H Q => ∃ a dx fs, xs = [.ref a] ∧ H a = some (.ins C dx fs) ∧ sp [.ref a] H (fun v H' => ∃ z, v = .str z ∧ Q v H') (fun _ _ _ => False)
section
variable {X : Cx} {C : Addr} {j k : Nat} {ps : List Str} {sp : Sp} {nm : Str}
theorem call_strOwn (G : PrM X.prog X.w X.K X.mg X.base C "__str__" ps j sp) (hr : Room k X.A) (hj : j + 2 ≤ k := by first | decide | omega) : CallR X (.type "str") (rOwnStr C sp) := by
  intro pins s σ H xs us Q I r h
  obtain ⟨f, fd, M, hb, F⟩ := G
  obtain ⟨a, dx, fs, rfl, ha, q⟩ := h
  obtain ⟨u, rfl, ru⟩ := vals1 r
  cases ru
  obtain ⟨mA, J, _⟩ := ins_get I.hok ha
  obtain ⟨od, J, _⟩ := J.look
  have hr2 : Room j X.A.in1.in1 := (hr.mono hj).in1.in1
  refine PySem.W.kso_call hr2.units0 I.kIn J M.at_ M.fn ?_
  refine run_at F hb (fun _ _ _ _ _ _ _ h => h.elim) hr2 rfl I (vs := [.ref a]) (.cons rfl .nil) q fun v u s' H' I' rv qv => ?_
  obtain ⟨z, rfl, qv⟩ := qv
  obtain ⟨t, rfl⟩ := rv
  exact ⟨.str z, H', I', ⟨t, rfl⟩, qv⟩
end
section
variable {X : Cx} {C : Addr} {j k : Nat} {ps : List Str} {sp : Sp} {m : Str} {o e : Expr} {es : List Expr} {apos pos : Pos} {ta : TE} {t : TA}
theorem pmeth0 {pl : Sem Bool} (c : Cls X.K C) (G : PrM X.prog X.w X.K X.mg X.base C m ps j sp) (hr : Room k X.A) (he : PE X o ta) (hj : j ≤ k := by first | decide | omega)
    (ht : eval (.Call (.Attribute o m apos) [] [] pos) X.env = (do
      let ov ← eval o X.env
      standAt apos.atName
      let (f, first) ← holding [ov] (getMethod ov m pl)
      callWith pos f first (backTo pos (starEach [] X.env)) (backToKw pos (keywordEach [] X.env))) := by rfl) :
    PE X (.Call (.Attribute o m apos) [] [] pos) (tMeth C m sp [] (fun _ _ _ => False) ta tNil) := by
  obtain ⟨f, fd, M, hb, F⟩ := G
  exact pe_meth0 he c M F (hr.mono hj) hb .nil (fun _ _ _ _ _ _ _ h => h.elim) ht
end
def tListVals (te : TE) : TE := fun σ H Q => te σ H fun x H1 => ∃ (d : Addr) (kvs : List (Key × V)), x = .ref d ∧ H1 d = some (.dK kvs) ∧ ∀ l, H1 l = none → Q (.ref l) (upd H1 l (.lst (kvs.map (·.2))))
section
variable {X : Cx} {e : Expr} {te : TE} {p apos cpos pos : Pos}
end
theorem pe_fldK {X : Cx} {K : PySem.W.Frag} {e : Expr} {ta : TE} {f : Str} {pos : Pos} (hK : X.K = K) (he : PE X e ta) (hb : attributeBase e f X.env (eval e X.env) = eval e X.env) : PE X (.Attribute e f pos) (tFld K ta f) := by
  subst hK
  exact pe_fld he hb
theorem u65 {A : Around} {k : Nat} (hr : Room k A) : A.units + 65 < cLine := by
  have := hr.un
  omega
section
variable {X : Cx} {K : PySem.W.Frag}
theorem ix_listK (hK : X.K = K) : IxR X (rIxL K) := by
  subst hK
  exact ix_list
theorem ix_tupK (hK : X.K = K) : IxR X (rIxT K) := by
  subst hK
  exact ix_tup
theorem ix_seqK (hK : X.K = K) : IxR X (rIx K) := by
  subst hK
  exact ix_seq
end
section
variable {X : Cx} {K : PySem.W.Frag}
theorem op_in_seqK (hK : X.K = K) : OpR X (compareOp .In) (rIn K false) := by
  subst hK
  exact op_in_seq
theorem op_notIn_seqK (hK : X.K = K) : OpR X (compareOp .NotIn) (rIn K true) := by
  subst hK
  exact op_notIn_seq
end
end Eyes

set_option Elab.async false
set_option linter.all false
set_option maxRecDepth 100000
set_option maxHeartbeats 4000000
/-! ==, repr() and bool() of own instances; either of two rules. -/
namespace Eyes
open PySem PySem.Spec PyProof.Rows L2
def EqTo (K : PySem.W.Frag) (C : Addr) (H : Hp) (y : V) : Prop :=
  (∃ z, y = .str z ∧ PySem.W.notFirst K C (.type "str") = true) ∨ (∃ b zs, y = .ref b ∧ H b = some (.lst zs) ∧ PySem.W.notFirst K C (.type "list") = true) ∨ ∃ b dy gs, y = .ref b ∧ H b = some (.ins C dy gs)
def rEqOwn (K : PySem.W.Frag) (C : Addr) (sp : Sp) : R2 := fun x y H Q => ∃ a dx fs, x = .ref a ∧ H a = some (.ins C dx fs) ∧ EqTo K C H y ∧ sp [.ref a, y] H Q (fun _ _ _ => False)
def rReprOwn (C : Addr) (sp : Sp) : List V → Hp → VK → Prop := fun xs H Q => ∃ a dx fs, xs = [.ref a] ∧ H a = some (.ins C dx fs) ∧ sp [.ref a] H (fun v H' => ∃ z, v = .str z ∧ Q v H') (fun _ _ _ => False)
def rBoolOwn (K : PySem.W.Frag) (C : Addr) : List V → Hp → VK → Prop := fun xs H Q => ∃ a dx fs, xs = [.ref a] ∧ H a = some (.ins C dx fs) ∧ PySem.W.findIn K (.ref C) "__bool__" = some none ∧ PySem.W.findIn K (.ref C) "__len__" = some none ∧ Q (.bl true) H
section
variable {X : Cx} {C : Addr} {j k : Nat} {ps : List Str} {sp : Sp}
theorem op_eqOwn (G : PrM X.prog X.w X.K X.mg X.base C "__eq__" ps j sp) (hr : Room k X.A) (hj : j ≤ k := by first | decide | omega) : OpR X (compareOp .Eq) (rEqOwn X.K C sp) := by
  intro pins s σ H x y v u Q I rx ry h
  obtain ⟨f, fd, M, hb, F⟩ := G
  obtain ⟨a, dx, fs, rfl, ha, hy, q⟩ := h
  cases rx
  obtain ⟨mA, J, _⟩ := ins_get I.hok ha
  obtain ⟨od, J, _⟩ := J.look
  obtain ⟨m, hF⟩ := I.fr
  have hrj := hr.mono hj
  have go : ∀ {tb : Value}, PySem.W.Looks (model X.prog X.w) s.heap (typeOf u) tb → PySem.W.notFirst X.K C tb = true → wpAny (model X.prog X.w) X.A (compareOp .Eq (.ref a) u) (EP X pins σ Q) X.xe s := fun {tb} L hn => by
    refine PySem.W.cmp_ofEq (PySem.W.cmp_K hrj.units0 hF I.ok.mod.kin J L hn M.at_ M.fn ?_)
    exact run_at F hb (fun _ _ _ _ _ _ _ h => h.elim) hrj rfl I (vs := [.ref a, y]) (.cons rfl (.cons ry .nil)) q fun v u s' H' I' rv qv => cmpBack_of rv ⟨v, H', I', rv, qv⟩
  rcases hy with ⟨z, rfl, hn⟩ | ⟨b, zs, rfl, hz, hn⟩ | ⟨b, dy, gs, rfl, hz⟩
  · obtain ⟨t, rfl⟩ := ry
    exact go (PySem.W.Looks.of_pure rfl) hn
  · cases ry
    obtain ⟨_, its, n, _, ho⟩ := I.hok b _ hz
    exact go (fun A Q E s k q => wpAny_typeOf_ref (k _ _ ho) q) hn
  · cases ry
    obtain ⟨mB, J', _⟩ := ins_get I.hok hz
    obtain ⟨od', J', _⟩ := J'.look
    exact go J'.type (by unfold PySem.W.notFirst; simp)
theorem call_reprOwn (G : PrM X.prog X.w X.K X.mg X.base C "__repr__" ps j sp) (hr : Room k X.A) (hj : j + 2 ≤ k := by first | decide | omega) : CallR X (.builtin "repr") (rReprOwn C sp) := by
  intro pins s σ H xs us Q I r h
  obtain ⟨f, fd, M, hb, F⟩ := G
  obtain ⟨a, dx, fs, rfl, ha, q⟩ := h
  obtain ⟨u, rfl, ru⟩ := vals1 r
  cases ru
  obtain ⟨mA, J, _⟩ := ins_get I.hok ha
  obtain ⟨od, J, _⟩ := J.look
  obtain ⟨m, hF⟩ := I.fr
  have hr2 : Room j X.A.in1 := (hr.mono (show j + 1 ≤ k by omega)).in1
  refine PySem.W.repr_K hr2.units0 hF I.ok.mod.kin J M.at_ M.fn ?_
  refine run_at F hb (fun _ _ _ _ _ _ _ h => h.elim) hr2 rfl I (vs := [.ref a]) (.cons rfl .nil) q fun v u s' H' I' rv qv => ?_
  obtain ⟨z, rfl, qv⟩ := qv
  obtain ⟨t, rfl⟩ := rv
  exact ⟨.str z, H', I', ⟨t, rfl⟩, qv⟩
theorem pi_or {tg it : Expr} {w1 w2 : TI} (h1 : PI X tg it w1) (h2 : PI X tg it w2) : PI X tg it (fun σ H Q => w1 σ H Q ∨ w2 σ H Q) := by
  refine ⟨fun pins s σ H Q I h => ?_⟩
  rcases h with h | h
  · exact h1.run pins s σ H Q I h
  · exact h2.run pins s σ H Q I h
end
section
variable {X : Cx}
theorem call_len_seqK {K : PySem.W.Frag} (hK : X.K = K) : CallR X (.builtin "len") (fun xs H Q => ∃ p ys, xs = [V.ref p] ∧ (SqL K H p ys ∨ SqT K H p ys) ∧ Q (V.int (ys.length : Nat)) H) := hK ▸ call_len_seq
theorem call_isiK {K : PySem.W.Frag} (hK : X.K = K) : CallR X (.builtin "isinstance") (rIsi K) := hK ▸ call_isi
end
end Eyes

set_option Elab.async false
set_option linter.all false
set_option maxRecDepth 100000
set_option maxHeartbeats 4000000
/-! Rules of mine: len() of own instances, len(range(..)), methods called with keywords, __init__ with defaults. -/
namespace Eyes
open PySem PySem.Spec PyProof.Rows L2
def rLenOwn (C : Addr) (sp : Sp) : List V → Hp → VK → Prop := fun xs H Q => ∃ a dx fs, xs = [.ref a] ∧ H a = some (.ins C dx fs) ∧ sp [.ref a] H (fun v H' => ∃ n : Nat, v = .int (n : Int) ∧ n < 4294967296 ∧ Q v H') (fun _ _ _ => False)
section
variable {X : Cx} {C : Addr} {j k : Nat} {ps : List Str} {sp : Sp} {nm : Str}
theorem call_lenOwn (G : PrM X.prog X.w X.K X.mg X.base C "__len__" ps j sp) (hr : Room k X.A) (hj : j + 2 ≤ k := by first | decide | omega) : CallR X (.builtin "len") (rLenOwn C sp) := by
  intro pins s σ H xs us Q I r h
  obtain ⟨f, fd, M, hb, F⟩ := G
  obtain ⟨a, dx, fs, rfl, ha, q⟩ := h
  obtain ⟨u, rfl, ru⟩ := vals1 r
  cases ru
  obtain ⟨mA, J, _⟩ := ins_get I.hok ha
  obtain ⟨od, J, _⟩ := J.look
  obtain ⟨m, hF⟩ := I.fr
  have hr2 : Room j X.A.in1 := (hr.mono (show j + 1 ≤ k by omega)).in1
  refine PySem.W.len_K hF I.ok.mod.kin J M.at_ M.fn ?_
  refine run_at F hb (fun _ _ _ _ _ _ _ h => h.elim) hr2 rfl I (vs := [.ref a]) (.cons rfl .nil) q fun v u s' H' I' rv qv => ?_
  obtain ⟨n, rfl, hn, qv⟩ := qv
  obtain ⟨t, rfl⟩ := rv
  exact ⟨⟨by omega, by omega⟩, .int n, H', I'.tok _, ⟨_, rfl⟩, qv⟩
end
def tLenRg (te : L2.St → Hp → (Int → Int → Hp → Prop) → Prop) : TE := fun σ H Q => te σ H fun a b H1 => RgOk a b ∧ Q (.int (((b - a).toNat : Nat) : Int)) H1
section
variable {X : Cx} {e : Expr} {te : L2.St → Hp → (Int → Int → Hp → Prop) → Prop}
theorem pe_lenRg {p pos : Pos} (hg : Gl X "len") (hm : X.mg "len" = none) (he : PRg X e te) (na : starEach [e] X.env = (false, eval e X.env) :: starEach [] X.env := by rfl) : PE X (.Call (.Name "len" p) [e] [] pos) (tLenRg te) := by
  refine ⟨fun pins s σ H Q I h => ?_⟩
  refine Call_ (ld_blt I hg hm PySem.boot_len (PyProof.Rows.callWith_builtin1 (args_cons (thn (he pins s σ H _ I h) fun x s1 ⟨r, a, b, t, u, v, H1, ex, hr, I1, ok, q⟩ => args_nil ?_) na) na))
  subst ex
  obtain ⟨b1, b2, b3, b4, b5⟩ := ok
  refine call_len_range (n := (b - a).toNat) hr (rangeSize_nat a b) (by omega) ?_
  exact ⟨.int _, H1, I1.tok _, ⟨_, rfl⟩, q⟩
end
def PrMF (P : Program) (w : World) (K : PySem.W.Frag) (mg : Str → Option Value) (base : Heap) (C : Addr) (m qual : Str) (st : Stmt) (ps : List Str) (k : Nat) (sp : Sp) : Prop :=
  ∃ (f : Addr) (fd : FuncData), Meth K C m f ∧ Fun K m qual st f fd ∧ Binds K fd ps [] ∧ FnOk P w K mg base CX0 k f fd ps sp
def KwOkM (m qual : Str) (st : Stmt) (ps ks : List Str) (is : List Nat) : Prop :=
  ∀ (kV doc pm : Value) (an : Option Addr) (cdv ct : Value) (us ws : List Value), us.length = 1 → ws.length = ks.length → bindArgs (PySem.W.fnOf m qual (defArgs st) (defBody st) (defScope st) .none kV doc pm an cdv ct) ⟨us, ks.zip ws⟩ = pure (ps.zip (pick is (us ++ ws)))
def tMethN (C : Addr) (m : Str) (n : Nat) (sp : Sp) (is : List Nat) (ta : TE) (tk : TA) : TE := fun σ H Q => ta σ H fun x H1 => ∃ a dx fs, x = .ref a ∧ H1 a = some (.ins C dx fs) ∧ fs.lookup m = none ∧ tk σ H1 fun zs H2 => zs.length = n ∧ sp (pick is ([x] ++ zs)) H2 Q (fun _ _ _ => False)
section
variable {P : Program} {w : World} {K : PySem.W.Frag} {mg : Str → Option Value} {base : Heap}
theorem PrMF.m {C : Addr} {m qual : Str} {st : Stmt} {ps : List Str} {k : Nat} {sp : Sp} (G : PrMF P w K mg base C m qual st ps k sp) : PrM P w K mg base C m ps k sp := by
  obtain ⟨f, fd, M, F, hb, R⟩ := G
  exact ⟨f, fd, M, hb, R⟩
end
section
variable {X : Cx} {C : Addr} {j k : Nat} {ps ks : List Str} {is : List Nat} {sp : Sp} {m qual : Str} {st : Stmt} {o : Expr} {kws : List Keyword} {apos pos : Pos} {ta : TE} {tk : TA}
end
def InitAtD (K : PySem.W.Frag) (C : Addr) (qual : Str) (st : Stmt) (ps : List Str) : Prop :=
  ∃ (f : Addr) (fd : FuncData) (dvs : List V), L2.Mk K C f ∧ FunD K "__init__" qual (defArgs st) (defBody st) (defScope st) dvs [] f fd ∧ Binds K fd ps []
abbrev BindHD (x qual : Str) (st : Stmt) (ps : List Str) : Prop := ∀ (T : Addr) (kV doc pm : Value) (an : Option Addr) (cdv ct : Value) (us its : List Value), us.length = ps.length → its.length = 1 →
  ∃ k, bindArgs (PySem.W.fnOf x qual (defArgs st) (defBody st) (defScope st) (.ref T) kV doc pm an cdv ct) ⟨us, []⟩ = seqItems? (.ref T) >>= k ∧ k (some its.toArray) = pure (ps.zip us)
section
variable {P : Program} {w : World} {K : PySem.W.Frag} {mg : Str → Option Value} {base : Heap}
theorem initAtD_mk {C : Addr} {qual : Str} {st : Stmt} {ps : List Str} {f T d : Addr} {oT : Obj} {n : Nat} {oc : Value} {od an : Option Addr} {osl : Array (Option Value)} {kV doc pm cdv ct : Value} (mk : PySem.W.makesIn K C = true) (kc : PySem.W.keepIn K (.ref C) = true)
    (a : PySem.W.findIn K (.ref C) "__init__" = some (some (.ref f))) (i : PySem.W.isFn K (.ref f) = true) (l : K.lookup f = some ⟨oc, od, .func (PySem.W.fnOf "__init__" qual (defArgs st) (defBody st) (defScope st) (.ref T) kV doc pm an cdv ct), osl⟩)
    (c : PySem.W.codeIn K cdv qual = true) (k : PySem.W.keepIn K (.ref f) = true) (lT : K.lookup T = some oT) (oTd : oT.data = .seq #[.ref d] n) (hb : BindHD "__init__" qual st ps) : InitAtD K C qual st ps := by
  have F : FunD K "__init__" qual (defArgs st) (defBody st) (defScope st) [.ref d] [] f (PySem.W.fnOf "__init__" qual (defArgs st) (defBody st) (defScope st) (.ref T) kV doc pm an cdv ct) :=
    ⟨⟨oc, od, .ref T, kV, doc, pm, an, cdv, ct, osl, rfl, l, c, .inr ⟨fun z => (nomatch z), T, oT, [.ref d], n, rfl, lT, oTd, .cons rfl .nil⟩, .inl rfl⟩, k⟩
  refine ⟨f, _, [.ref d], ⟨mk, a, i, kc⟩, F, ?_⟩
  obtain ⟨ds, h1, h2⟩ := F.binds1 (ps := ps) ps.length 1 (fun z => (nomatch z)) rfl fun T kV doc pm an cdv ct us its e1 e2 => by
    obtain ⟨k, k1, k2⟩ := hb T kV doc pm an cdv ct us its e1 e2
    refine ⟨k, k1, ?_⟩
    rw [k2, List.drop_of_length_le (by rw [e2]; exact Nat.le_refl _), List.append_nil]
  cases h1
  exact h2
end
end Eyes

set_option Elab.async false
set_option linter.all false
set_option maxRecDepth 100000
set_option maxHeartbeats 4000000
/-! An __init__ whose last parameter defaults to (), called without it. -/
namespace Eyes
open PySem PySem.Spec PyProof.Rows L2
def InitD0 (K : PySem.W.Frag) (C : Addr) (qual : Str) (st : Stmt) (ps : List Str) : Prop :=
  ∃ (f : Addr) (fd : FuncData) (d : Addr) (ds : List Value), L2.Mk K C f ∧ FunD K "__init__" qual (defArgs st) (defBody st) (defScope st) [.ref d] [] f fd ∧ Vals [.ref d] ds ∧ Binds K fd ps ds ∧ ∀ H, SqT K H d []
abbrev BindHD0 (x qual : Str) (st : Stmt) (ps : List Str) : Prop := ∀ (T : Addr) (kV doc pm : Value) (an : Option Addr) (cdv ct : Value) (us its : List Value), us.length + 1 = ps.length → its.length = 1 →
  ∃ k, bindArgs (PySem.W.fnOf x qual (defArgs st) (defBody st) (defScope st) (.ref T) kV doc pm an cdv ct) ⟨us, []⟩ = seqItems? (.ref T) >>= k ∧ k (some its.toArray) = pure (ps.zip (us ++ its))
section
variable {P : Program} {w : World} {K : PySem.W.Frag} {mg : Str → Option Value} {base : Heap}
theorem initD0_mk {C : Addr} {qual : Str} {st : Stmt} {ps : List Str} {f T d : Addr} {oT oE : Obj} {n m : Nat} {oc : Value} {od an : Option Addr} {osl : Array (Option Value)} {kV doc pm cdv ct : Value} (mk : PySem.W.makesIn K C = true) (kc : PySem.W.keepIn K (.ref C) = true)
    (a : PySem.W.findIn K (.ref C) "__init__" = some (some (.ref f))) (i : PySem.W.isFn K (.ref f) = true) (l : K.lookup f = some ⟨oc, od, .func (PySem.W.fnOf "__init__" qual (defArgs st) (defBody st) (defScope st) (.ref T) kV doc pm an cdv ct), osl⟩)
    (c : PySem.W.codeIn K cdv qual = true) (k : PySem.W.keepIn K (.ref f) = true) (lT : K.lookup T = some oT) (oTd : oT.data = .seq #[.ref d] n) (lE : K.lookup d = some oE) (oEc : oE.cls = .type "tuple") (oEd : oE.data = .seq #[] m) (hps : 1 ≤ ps.length) (hb : BindHD0 "__init__" qual st ps) : InitD0 K C qual st ps := by
  have F : FunD K "__init__" qual (defArgs st) (defBody st) (defScope st) [.ref d] [] f (PySem.W.fnOf "__init__" qual (defArgs st) (defBody st) (defScope st) (.ref T) kV doc pm an cdv ct) :=
    ⟨⟨oc, od, .ref T, kV, doc, pm, an, cdv, ct, osl, rfl, l, c, .inr ⟨fun z => (nomatch z), T, oT, [.ref d], n, rfl, lT, oTd, .cons rfl .nil⟩, .inl rfl⟩, k⟩
  obtain ⟨ds, h1, h2⟩ := F.binds1 (ps := ps) (ps.length - 1) 0 (fun z => (nomatch z)) (by show ps.length - 1 + 1 = ps.length; omega) fun T kV doc pm an cdv ct us its e1 e2 => by
    obtain ⟨k, k1, k2⟩ := hb T kV doc pm an cdv ct us its (by omega) e2
    exact ⟨k, k1, k2⟩
  exact ⟨f, _, d, ds, ⟨mk, a, i, kc⟩, F, h1, h2, fun H => .inr ⟨oE, #[], m, lE, oEc, oEd, Nat.zero_le _, .nil⟩⟩
end
def PrI0 (P : Program) (w : World) (K : PySem.W.Frag) (mg : Str → Option Value) (base : Heap) (C : Addr) (ps : List Str) (k : Nat) (sp : Sp) : Prop :=
  ∃ (f : Addr) (fd : FuncData) (d : Addr) (ds : List Value), L2.Mk K C f ∧ Vals [.ref d] ds ∧ Binds K fd ps ds ∧ (∀ H, SqT K H d []) ∧ FnOk P w K mg base CX0 k f fd ps sp
section
variable {P : Program} {w : World} {K : PySem.W.Frag} {mg : Str → Option Value} {base : Heap}
theorem pri0_mk {C : Addr} {qual : Str} {st : Stmt} {N ps : List Str} {k : Nat} {sp : Sp} (A : InitD0 K C qual st ps) (S : FnScope N ps (defScope st)) (len : ∀ vs H Q E, sp vs H Q E → vs.length = ps.length)
    (hbody : ∀ (f : Addr) (cdv : Value) (A : Around) (outer : List Env) (s : Shared) (H : Hp) (vs : List V) (Q : VK) (E : XK), Room k (A.deeper (envOfC qual (defScope st) s.heap.objs.size f cdv)) → sp vs H Q E →
      ∃ t, PSs (cxOf CX0 P w K mg base N qual (defScope st) f cdv A outer s H E).nox (defBody st) t ∧ t { nx := fun _ H' => Q .non H', rt := Q } (start N vs) H) : PrI0 P w K mg base C ps (k + 1) sp := by
  obtain ⟨f, fd, d, ds, hm, F, hv, hb, he⟩ := A
  exact ⟨f, fd, d, ds, hm, hv, hb, he, F.ok S len fun cdv A outer s H vs Q E hr h => by
    obtain ⟨t, h1, h2⟩ := hbody f cdv A outer s H vs Q E hr h
    exact ⟨t, h1.nox, h2⟩⟩
end
def tMake0 (K : PySem.W.Frag) (C : Addr) (sp : Sp) (t : TA) : TE := fun σ H Q => ∀ d, (∀ H', SqT K H' d []) → tMake C sp [.ref d] (fun _ _ _ => False) t σ H Q
section
variable {X : Cx} {x : Str} {ps : List Str} {sp : Sp} {e : Expr} {es : List Expr} {p pos : Pos} {t : TA} {K : PySem.W.Frag}
theorem pmake0 {C : Addr} {j k : Nat} (hK : X.K = K) (hm : X.mg x = some (.ref C)) (G : PrI0 X.prog X.w X.K X.mg X.base C ps j sp) (hr : Room k X.A) (ha : PA X (e :: es) t) (hj : j + 1 ≤ k := by first | decide | omega) (hg : Gl X x := by rfl)
    (hdb : (x == ("__debug__" : Str)) = false := by decide) (he : starEach (e :: es) X.env = (false, eval e X.env) :: starEach es X.env := by rfl) (hpl : (backTo pos (starEach es X.env)).any (·.1) = false := by rfl) :
    PE X (.Call (.Name x p) (e :: es) [] pos) (tMake0 K C sp t) := by
  subst hK
  obtain ⟨f, fd, d, ds, M, hv, hb, hd, F⟩ := G
  refine ⟨fun pins s σ H Q I h => ?_⟩
  exact (pe_make M F (hr.mono hj) hg hm hb hv (fun _ _ _ _ _ _ _ h => h.elim) ha hdb he hpl).run pins s σ H Q I (h d hd)
end
end Eyes

set_option Elab.async false
set_option linter.all false
set_option maxRecDepth 100000
set_option maxHeartbeats 4000000
/-! Static methods and classes called with keywords alone. -/
namespace Eyes
open PySem PySem.Spec PyProof.Rows L2
def PrStaF (P : Program) (w : World) (K : PySem.W.Frag) (mg : Str → Option Value) (base : Heap) (C : Addr) (m qual : Str) (st : Stmt) (ps : List Str) (k : Nat) (sp : Sp) : Prop :=
  ∃ (mc : Value) (p f : Addr) (fd : FuncData), ClX.CRead K C mc ∧ CSta K C mc m p f ∧ Fun K m qual st f fd ∧ Binds K fd ps [] ∧ FnOk P w K mg base CX0 k f fd ps sp
def KwOkS (m qual : Str) (st : Stmt) (ps ks : List Str) (is : List Nat) : Prop :=
  ∀ (kV doc pm : Value) (an : Option Addr) (cdv ct : Value) (ws : List Value), ws.length = ks.length → bindArgs (PySem.W.fnOf m qual (defArgs st) (defBody st) (defScope st) .none kV doc pm an cdv ct) ⟨[], ks.zip ws⟩ = pure (ps.zip (pick is ws))
section
variable {P : Program} {w : World} {K : PySem.W.Frag} {mg : Str → Option Value} {base : Heap}
theorem PrStaF.s {C : Addr} {m qual : Str} {st : Stmt} {ps : List Str} {k : Nat} {sp : Sp} (G : PrStaF P w K mg base C m qual st ps k sp) : PrSta P w K mg base C m ps k sp := by
  obtain ⟨mc, p, f, fd, r, a, _, hb, F⟩ := G
  exact ⟨mc, p, f, fd, r, a, hb, F⟩
theorem prstaF_mk {C : Addr} {m qual : Str} {st : Stmt} {N ps : List Str} {k : Nat} {sp : Sp} (A : StaAt K C m qual st ps) (S : FnScope N ps (defScope st)) (len : ∀ vs H Q E, sp vs H Q E → vs.length = ps.length)
    (hbody : ∀ (f : Addr) (cdv : Value) (A : Around) (outer : List Env) (s : Shared) (H : Hp) (vs : List V) (Q : VK) (E : XK), Room k (A.deeper (envOfC qual (defScope st) s.heap.objs.size f cdv)) → sp vs H Q E →
      ∃ t, PSs (cxOf CX0 P w K mg base N qual (defScope st) f cdv A outer s H E).nox (defBody st) t ∧ t { nx := fun _ H' => Q .non H', rt := Q } (start N vs) H) : PrStaF P w K mg base C m qual st ps (k + 1) sp := by
  obtain ⟨mc, p, f, fd, r, a, F, hb⟩ := A
  exact ⟨mc, p, f, fd, r, a, F, hb, F.ok S len fun cdv A outer s H vs Q E hr h => hbody f cdv A outer s H vs Q E hr h⟩
end
def tStaN (C : Addr) (n : Nat) (sp : Sp) (is : List Nat) (ta : TE) (tk : TA) : TE := fun σ H Q => ta σ H fun x H1 => x = .ref C ∧ tk σ H1 fun zs H2 => zs.length = n ∧ sp (pick is zs) H2 Q (fun _ _ _ => False)
section
variable {X : Cx} {C : Addr} {j k : Nat} {ps ks : List Str} {is : List Nat} {sp : Sp} {m qual : Str} {st : Stmt} {o : Expr} {kws : List Keyword} {apos pos : Pos} {ta : TE} {tk : TA}
end
def PrIK (P : Program) (w : World) (K : PySem.W.Frag) (mg : Str → Option Value) (base : Heap) (C : Addr) (qual : Str) (st : Stmt) (ps : List Str) (k : Nat) (sp : Sp) : Prop :=
  ∃ (f : Addr) (fd : FuncData) (d : Addr), L2.Mk K C f ∧ FunD K "__init__" qual (defArgs st) (defBody st) (defScope st) [.ref d] [] f fd ∧ FnOk P w K mg base CX0 k f fd ps sp
def KwHD (x qual : Str) (st : Stmt) (ps ks : List Str) (is : List Nat) : Prop := ∀ (T : Addr) (kV doc pm : Value) (an : Option Addr) (cdv ct : Value) (us its ws : List Value), us.length = 1 → its.length = 1 → ws.length = ks.length →
  ∃ k, bindArgs (PySem.W.fnOf x qual (defArgs st) (defBody st) (defScope st) (.ref T) kV doc pm an cdv ct) ⟨us, ks.zip ws⟩ = seqItems? (.ref T) >>= k ∧ k (some its.toArray) = pure (ps.zip (pick is (us ++ ws)))
section
variable {P : Program} {w : World} {K : PySem.W.Frag} {mg : Str → Option Value} {base : Heap}
end
section
variable {X : Cx} {C : Addr} {j k : Nat} {ps ks : List Str} {is : List Nat} {sp : Sp} {x qual : Str} {st : Stmt} {kws : List Keyword} {p pos : Pos} {tk : TA}
end
end Eyes

set_option Elab.async false
set_option linter.all false
set_option maxRecDepth 100000
set_option maxHeartbeats 4000000
/-! Circles as data: texts, sizes, depths; how they are built; how they stand in the heap. -/
namespace Eyes
open PySem PySem.Spec PyProof.Rows L2 Evl TL
inductive Ci where
  | eye (n : Str)
  | node (k : Bool) (ps : List Ci)
def sepS : Bool → Str | true => " & " | false => " | "
def kindS : Bool → Str | true => "pool" | false => "common"
def wrapL (c : Ci) (t : List Nat) : List Nat := match c with
  | .eye _ => t
  | .node _ _ => 40 :: (t ++ [41])
mutual
def Ci.tx : Ci → List Nat
  | .eye n => tl n
  | .node k ps => joinL (tl (sepS k)) (inns ps)
def inns : List Ci → List (List Nat)
  | [] => []
  | c :: r => wrapL c c.tx :: inns r
end
mutual
def Ci.size : Ci → Nat
  | .eye _ => 1
  | .node _ ps => sizes ps
def sizes : List Ci → Nat
  | [] => 0
  | c :: r => c.size + sizes r
end
mutual
def Ci.depth : Ci → Nat
  | .eye _ => 0
  | .node _ ps => 1 + depths ps
def depths : List Ci → Nat
  | [] => 0
  | c :: r => max c.depth (depths r)
end
def Ci.str (c : Ci) : Str := ⟨c.tx.toArray⟩
def Ci.kind : Ci → Str | .eye _ => "eye" | .node k _ => kindS k
def Ci.name : Ci → Str | .eye n => n | .node _ _ => ""
def Ci.parts : Ci → List Ci | .eye _ => [] | .node _ ps => ps
def Ci.isK (k : Bool) : Ci → Bool | .eye _ => false | .node j _ => j == k
theorem tl_str (c : Ci) : tl c.str = c.tx := rfl
theorem inns_map : ∀ ps : List Ci, inns ps = ps.map fun c => wrapL c c.tx
  | [] => rfl
  | c :: r => by
    show wrapL c c.tx :: inns r = _
    rw [inns_map r]
    rfl
theorem depths_le : ∀ {ps : List Ci} {c : Ci}, c ∈ ps → c.depth ≤ depths ps
  | d :: r, c, h => by
    show c.depth ≤ max d.depth (depths r)
    rcases List.mem_cons.mp h with rfl | h
    · exact Nat.le_max_left _ _
    · exact Nat.le_trans (depths_le h) (Nat.le_max_right _ _)
/-! ### building -/
def flat (k : Bool) : List Ci → List Ci
  | [] => []
  | c :: r => (if c.isK k = true then c.parts else [c]) ++ flat k r
def dd : List Ci → List Ci → List Ci
  | acc, [] => acc
  | acc, c :: r => if acc.any (fun d => decide (d.str = c.str)) = true then dd acc r else dd (acc ++ [c]) r
def wrapK (k : Bool) : List Ci → Ci
  | [c] => c
  | ps => .node k ps
def mkC (k : Bool) (cs : List Ci) : Ci := wrapK k (dd [] (flat k cs))
/-! ### what is well made: names of letters, two parts or more -/
def nm (n : Str) : Prop := 1 ≤ n.length ∧ n.length ≤ 6 ∧ ∀ x ∈ tl n, 97 ≤ x ∧ x ≤ 122
mutual
def Ci.ok : Ci → Prop
  | .eye n => nm n
  | .node _ ps => 2 ≤ ps.length ∧ oks ps
def oks : List Ci → Prop
  | [] => True
  | c :: r => c.ok ∧ oks r
end
theorem oks_mem : ∀ {ps : List Ci}, oks ps ↔ ∀ c ∈ ps, c.ok
  | [] => ⟨fun _ _ h => (nomatch h), fun _ => True.intro⟩
  | c :: r => by
    show c.ok ∧ oks r ↔ _
    rw [oks_mem (ps := r)]
    constructor
    · rintro ⟨h1, h2⟩ d hd
      rcases List.mem_cons.mp hd with rfl | hd
      · exact h1
      · exact h2 d hd
    · intro h
      exact ⟨h c List.mem_cons_self, fun d hd => h d (List.mem_cons_of_mem _ hd)⟩
theorem joinL_len (S : List Nat) : ∀ l : List (List Nat), (joinL S l).length + S.length * (if l = [] then 0 else 1) = (l.map List.length).sum + S.length * l.length
  | [] => rfl
  | [p] => by simp [joinL]
  | p :: q :: r => by
    have ih := joinL_len S (q :: r)
    show (p ++ (S ++ joinL S (q :: r))).length + _ = _
    rw [if_neg (by simp)] at ih ⊢
    rw [List.length_append, List.length_append, List.map_cons, List.sum_cons]
    have e : S.length * (p :: q :: r).length = S.length * (q :: r).length + S.length := by rw [List.length_cons, Nat.mul_succ]
    rw [e]
    omega
mutual
theorem Ci.size_pos : ∀ c : Ci, c.ok → 1 ≤ c.size
  | .eye n, _ => Nat.le_refl _
  | .node k ps, h => Nat.le_trans (Nat.le_trans (by decide) h.1) (sizes_len ps h.2)
theorem sizes_len : ∀ ps : List Ci, oks ps → ps.length ≤ sizes ps
  | [], _ => Nat.zero_le _
  | c :: r, h => by
    have h1 := Ci.size_pos c h.1
    have h2 := sizes_len r h.2
    show r.length + 1 ≤ c.size + sizes r
    omega
end
/-! ### in the heap -/
def flds (kind name : Str) (l : Addr) (s d : Int) (t : Str) : List (Str × V) :=
  putF "_text" (.str t) (putF "depth" (.int d) (putF "size" (.int s) (putF "_parts" (.ref l) (putF "name" (.str name) (putF "kind" (.str kind) [])))))
section
variable {kind name t : Str} {l : Addr} {s d : Int}
end
mutual
inductive CiAt (C : Addr) (H : Hp) : V → Ci → Prop
  | mk {p dx l : Addr} {vs : List V} {c : Ci} {ps : List Ci} : ps = c.parts → H p = some (.ins C dx (flds c.kind c.name l c.size c.depth c.str)) → H l = some (.lst vs) → CisAt C H vs ps → CiAt C H (.ref p) c
inductive CisAt (C : Addr) (H : Hp) : List V → List Ci → Prop
  | nil : CisAt C H [] []
  | cons {v : V} {vs : List V} {c : Ci} {cs : List Ci} : CiAt C H v c → CisAt C H vs cs → CisAt C H (v :: vs) (c :: cs)
end
mutual
theorem CiAt.mono {C : Addr} {H H' : Hp} (e : Ex H H') : ∀ {v : V} {c : Ci}, CiAt C H v c → CiAt C H' v c
  | _, _, .mk h0 h1 h2 h3 => .mk h0 (e _ _ h1) (e _ _ h2) (CisAt.mono e h3)
theorem CisAt.mono {C : Addr} {H H' : Hp} (e : Ex H H') : ∀ {vs : List V} {cs : List Ci}, CisAt C H vs cs → CisAt C H' vs cs
  | _, _, .nil => .nil
  | _, _, .cons h r => .cons (CiAt.mono e h) (CisAt.mono e r)
end
section
variable {C : Addr} {H : Hp}
theorem CisAt.length : ∀ {vs : List V} {cs : List Ci}, CisAt C H vs cs → vs.length = cs.length
  | _, _, .nil => rfl
  | _, _, .cons _ r => congrArg Nat.succ (CisAt.length r)
theorem CisAt.get : ∀ {vs : List V} {cs : List Ci} {i : Nat} {v : V}, CisAt C H vs cs → vs[i]? = some v → ∃ c, cs[i]? = some c ∧ CiAt C H v c
  | _, _, _, _, .nil, e => by simp at e
  | _, _, 0, _, .cons h _, e => by
    simp at e
    subst e
    exact ⟨_, rfl, h⟩
  | _, _, i + 1, v, .cons _ r, e => by
    obtain ⟨c, h1, h2⟩ := CisAt.get (i := i) (v := v) r (by simpa using e)
    exact ⟨c, by simpa using h1, h2⟩
theorem CisAt.append : ∀ {vs ws : List V} {cs ds : List Ci}, CisAt C H vs cs → CisAt C H ws ds → CisAt C H (vs ++ ws) (cs ++ ds)
  | _, _, _, _, .nil, s => s
  | _, _, _, _, .cons h r, s => .cons h (CisAt.append r s)
theorem CisAt.one {v : V} {c : Ci} (h : CiAt C H v c) : CisAt C H [v] [c] := .cons h .nil
theorem CiAt.at_ {v : V} {c : Ci} (h : CiAt C H v c) : ∃ p dx l vs, v = .ref p ∧ H p = some (.ins C dx (flds c.kind c.name l c.size c.depth c.str)) ∧ H l = some (.lst vs) ∧ CisAt C H vs c.parts := by
  cases h with
  | mk h0 h1 h2 h3 =>
    subst h0
    exact ⟨_, _, _, _, rfl, h1, h2, h3⟩
end
/-! ### facts about building -/
theorem dd_sub : ∀ {acc cs : List Ci} {d : Ci}, d ∈ dd acc cs → d ∈ acc ∨ d ∈ cs
  | acc, [], d, h => .inl h
  | acc, e :: r, d, h => by
    unfold dd at h
    by_cases g : acc.any (fun d => decide (d.str = e.str)) = true
    · rw [if_pos g] at h
      exact (dd_sub h).imp_right (List.mem_cons_of_mem _)
    · rw [if_neg g] at h
      rcases dd_sub h with h | h
      · rcases List.mem_append.mp h with h | h
        · exact .inl h
        · rw [List.mem_singleton.mp h]
          exact .inr List.mem_cons_self
      · exact .inr (List.mem_cons_of_mem _ h)
theorem dd_ge : ∀ {acc cs : List Ci}, acc.length ≤ (dd acc cs).length
  | acc, [] => Nat.le_refl _
  | acc, e :: r => by
    unfold dd
    by_cases g : acc.any (fun d => decide (d.str = e.str)) = true
    · rw [if_pos g]
      exact dd_ge
    · rw [if_neg g]
      have := dd_ge (acc := acc ++ [e]) (cs := r)
      rw [List.length_append, List.length_singleton] at this
      omega
theorem dd_ne {cs : List Ci} (h : cs ≠ []) : dd [] cs ≠ [] := by
  cases cs with
  | nil => exact absurd rfl h
  | cons e r =>
    have := dd_ge (acc := [e]) (cs := r)
    intro g
    have g2 : dd [e] r = [] := g
    rw [g2] at this
    exact absurd this (by simp)
def Ci.fine (c : Ci) : Prop := c.ok ∧ c.size ≤ 60
theorem sizes_mem : ∀ {ps : List Ci} {c : Ci}, c ∈ ps → c.size ≤ sizes ps
  | d :: r, c, h => by
    show c.size ≤ d.size + sizes r
    rcases List.mem_cons.mp h with rfl | h
    · omega
    · have := sizes_mem h
      omega
theorem parts_fine {c d : Ci} (h : c.fine) (hd : d ∈ c.parts) : d.fine := by
  cases c with
  | eye n => exact absurd hd (by intro h; cases h)
  | node k ps =>
    have hd : d ∈ ps := hd
    have h2 : sizes ps ≤ 60 := h.2
    exact ⟨oks_mem.mp h.1.2 d hd, Nat.le_trans (sizes_mem hd) h2⟩
theorem flat_fine {k : Bool} : ∀ {cs : List Ci}, (∀ c ∈ cs, c.fine) → ∀ d ∈ flat k cs, d.fine
  | [], _, d, hd => by cases hd
  | c :: r, h, d, hd => by
    unfold flat at hd
    rcases List.mem_append.mp hd with hd | hd
    · by_cases g : c.isK k = true
      · rw [if_pos g] at hd
        exact parts_fine (h c List.mem_cons_self) hd
      · rw [if_neg g] at hd
        rw [List.mem_singleton.mp hd]
        exact h c List.mem_cons_self
    · exact flat_fine (fun e he => h e (List.mem_cons_of_mem _ he)) d hd
theorem flat_ne {k : Bool} {cs : List Ci} (hf : ∀ c ∈ cs, c.ok) (h : cs ≠ []) : flat k cs ≠ [] := by
  cases cs with
  | nil => exact absurd rfl h
  | cons c r =>
    intro g
    have g2 : (if c.isK k = true then c.parts else [c]) = [] := (List.append_eq_nil_iff.mp g).1
    by_cases e : c.isK k = true
    · rw [if_pos e] at g2
      have := hf c List.mem_cons_self
      cases c with
      | eye n => cases e
      | node j ps =>
        have h2 : 2 ≤ ps.length := this.1
        have g2 : ps = [] := g2
        rw [g2] at h2
        exact absurd h2 (by decide)
    · rw [if_neg e] at g2
      cases g2
def pts (k : Bool) (cs : List Ci) : List Ci := dd [] (flat k cs)
theorem mkC_one {k : Bool} {cs : List Ci} {c : Ci} (h : pts k cs = [c]) : mkC k cs = c := by
  show wrapK k (pts k cs) = c
  rw [h]
  rfl
theorem mkC_more {k : Bool} {cs : List Ci} (h : (pts k cs).length ≠ 1) : mkC k cs = .node k (pts k cs) := by
  show wrapK k (pts k cs) = _
  generalize pts k cs = l at h
  match l, h with
  | [], _ => rfl
  | [c], h => exact absurd rfl h
  | c :: d :: r, _ => rfl
structure Good (k : Bool) (cs : List Ci) : Prop where
  ne : cs ≠ []
  fine : ∀ c ∈ cs, c.fine
  few : cs.length ≤ 1400
  size : (mkC k cs).size ≤ 60
  depth : (mkC k cs).depth ≤ 20
theorem Good.pts_ne {k : Bool} {cs : List Ci} (g : Good k cs) : pts k cs ≠ [] := dd_ne (flat_ne (fun c hc => (g.fine c hc).1) g.ne)
theorem Good.pts_fine {k : Bool} {cs : List Ci} (g : Good k cs) : ∀ c ∈ pts k cs, c.fine := fun c hc => by
  rcases dd_sub hc with h | h
  · cases h
  · exact flat_fine g.fine c h
theorem Good.ok {k : Bool} {cs : List Ci} (g : Good k cs) : (mkC k cs).fine := by
  refine ⟨?_, g.size⟩
  by_cases h : (pts k cs).length = 1
  · obtain ⟨c, hc⟩ := List.length_eq_one_iff.mp h
    rw [mkC_one hc]
    exact (g.pts_fine c (by rw [hc]; exact List.mem_cons_self)).1
  · rw [mkC_more h]
    refine ⟨?_, oks_mem.mpr fun c hc => (g.pts_fine c hc).1⟩
    have := List.length_pos_iff.mpr g.pts_ne
    omega
end Eyes

set_option Elab.async false
set_option linter.all false
set_option maxRecDepth 100000
set_option maxHeartbeats 4000000
/-! A text tells its circle. -/
namespace Eyes
open PySem PySem.Spec PyProof.Rows L2 Evl TL
def scan : Nat → List Nat → List Nat → List Nat × List Nat
  | _, acc, [] => (acc, [])
  | d, acc, x :: r => if x = 40 then scan (d + 1) (acc ++ [x]) r else if x = 41 then scan (d - 1) (acc ++ [x]) r else if x = 32 ∧ d = 0 then (acc, x :: r) else scan d (acc ++ [x]) r
theorem scan_open {d : Nat} {acc r : List Nat} : scan d acc (40 :: r) = scan (d + 1) (acc ++ [40]) r := by
  rw [scan, if_pos rfl]
theorem scan_close {d : Nat} {acc r : List Nat} : scan (d + 1) acc (41 :: r) = scan d (acc ++ [41]) r := by
  rw [scan, if_neg (by decide), if_pos rfl, Nat.add_sub_cancel]
theorem scan_other {d x : Nat} {acc r : List Nat} (h1 : x ≠ 40) (h2 : x ≠ 41) (h3 : x ≠ 32 ∨ 1 ≤ d) : scan d acc (x :: r) = scan d (acc ++ [x]) r := by
  rw [scan, if_neg h1, if_neg h2, if_neg]
  rintro ⟨a, b⟩
  rcases h3 with h | h
  · exact h a
  · omega
theorem scan_let {d : Nat} : ∀ (n acc r : List Nat), (∀ x ∈ n, 97 ≤ x ∧ x ≤ 122) → scan d acc (n ++ r) = scan d (acc ++ n) r
  | [], acc, r, _ => by rw [List.append_nil]; rfl
  | x :: n, acc, r, h => by
    have hx := h x List.mem_cons_self
    show scan d acc (x :: (n ++ r)) = _
    rw [scan_other (by omega) (by omega) (.inl (by omega)), scan_let n _ r fun y hy => h y (List.mem_cons_of_mem _ hy), List.append_assoc]
    rfl
def Itm (p : List Nat) : Prop := ∀ d acc r, scan d acc (p ++ r) = scan d (acc ++ p) r
theorem sep_tl (k : Bool) : tl (sepS k) = [32, if k = true then 38 else 124, 32] := by cases k <;> decide +kernel
theorem scan_sep {k : Bool} {d : Nat} {acc r : List Nat} : scan (d + 1) acc (tl (sepS k) ++ r) = scan (d + 1) (acc ++ tl (sepS k)) r := by
  rw [sep_tl]
  show scan (d + 1) acc (32 :: (if k = true then 38 else 124) :: 32 :: r) = _
  rw [scan_other (by decide) (by decide) (.inr (by omega)), scan_other (by cases k <;> decide) (by cases k <;> decide) (.inr (by omega)), scan_other (by decide) (by decide) (.inr (by omega))]
  simp
theorem scan_join {k : Bool} {d : Nat} : ∀ (l : List (List Nat)) (acc r : List Nat), (∀ p ∈ l, Itm p) → scan (d + 1) acc (joinL (tl (sepS k)) l ++ r) = scan (d + 1) (acc ++ joinL (tl (sepS k)) l) r
  | [], acc, r, _ => by show scan (d + 1) acc r = scan (d + 1) (acc ++ []) r; rw [List.append_nil]
  | [p], acc, r, h => h p List.mem_cons_self _ _ _
  | p :: q :: l, acc, r, h => by
    show scan (d + 1) acc ((p ++ (tl (sepS k) ++ joinL (tl (sepS k)) (q :: l))) ++ r) = _
    rw [List.append_assoc, h p List.mem_cons_self, List.append_assoc, scan_sep, scan_join (q :: l) _ r fun y hy => h y (List.mem_cons_of_mem _ hy), List.append_assoc, List.append_assoc]
    rfl
mutual
theorem Ci.itm : ∀ c : Ci, c.ok → Itm (wrapL c c.tx)
  | .eye n, h => fun d acc r => scan_let (tl n) acc r h.2.2
  | .node k ps, h => fun d acc r => by
    show scan d acc ((40 :: (joinL (tl (sepS k)) (inns ps) ++ [41])) ++ r) = scan d (acc ++ (40 :: (joinL (tl (sepS k)) (inns ps) ++ [41]))) r
    have e : (40 :: (joinL (tl (sepS k)) (inns ps) ++ [41])) ++ r = 40 :: (joinL (tl (sepS k)) (inns ps) ++ (41 :: r)) := by simp
    rw [e, scan_open, scan_join _ _ _ (inns_itm ps h.2), scan_close]
    simp
theorem inns_itm : ∀ ps : List Ci, oks ps → ∀ p ∈ inns ps, Itm p
  | [], _, p, hp => by cases hp
  | c :: r, h, p, hp => by
    rcases List.mem_cons.mp hp with rfl | hp
    · exact Ci.itm c h.1
    · exact inns_itm r h.2 p hp
end
theorem Itm.all {p : List Nat} (h : Itm p) : scan 0 [] p = (p, []) := by
  have := h 0 [] []
  rw [List.append_nil] at this
  exact this
theorem Itm.cut {p r : List Nat} (h : Itm p) : scan 0 [] (p ++ 32 :: r) = (p, 32 :: r) := by
  rw [h 0 [] (32 :: r), scan, if_neg (by decide), if_neg (by decide), if_pos ⟨rfl, rfl⟩]
  rfl
theorem join_cons (k : Bool) (p q : List Nat) (l : List (List Nat)) : joinL (tl (sepS k)) (p :: q :: l) = p ++ 32 :: (if k = true then 38 else 124) :: 32 :: joinL (tl (sepS k)) (q :: l) := by
  show p ++ (tl (sepS k) ++ _) = _
  rw [sep_tl]
  rfl
theorem join_inj {k : Bool} : ∀ (l m : List (List Nat)), l ≠ [] → m ≠ [] → (∀ p ∈ l, Itm p) → (∀ p ∈ m, Itm p) → joinL (tl (sepS k)) l = joinL (tl (sepS k)) m → l = m
  | [], _, h, _, _, _, _ => absurd rfl h
  | _, [], _, h, _, _, _ => absurd rfl h
  | [p], [q], _, _, _, _, e => by
    have e : p = q := e
    rw [e]
  | [p], q :: q2 :: m, _, _, h1, h2, e => by
    rw [join_cons] at e
    have e : p = _ := e
    have := (h1 p List.mem_cons_self).all
    rw [e, (h2 q List.mem_cons_self).cut] at this
    injection this with a b
    cases b
  | p :: p2 :: l, [q], _, _, h1, h2, e => by
    rw [join_cons] at e
    have e : _ = q := e
    have := (h2 q List.mem_cons_self).all
    rw [← e, (h1 p List.mem_cons_self).cut] at this
    injection this with a b
    cases b
  | p :: p2 :: l, q :: q2 :: m, _, _, h1, h2, e => by
    rw [join_cons, join_cons] at e
    have c1 := (h1 p List.mem_cons_self).cut (r := (if k = true then 38 else 124) :: 32 :: joinL (tl (sepS k)) (p2 :: l))
    rw [e, (h2 q List.mem_cons_self).cut] at c1
    injection c1 with a b
    injection b with _ b
    injection b with _ b
    injection b with _ b
    rw [a, join_inj (p2 :: l) (q2 :: m) (by simp) (by simp) (fun y hy => h1 y (List.mem_cons_of_mem _ hy)) (fun y hy => h2 y (List.mem_cons_of_mem _ hy)) b.symm]
theorem inns_ne {ps : List Ci} (h : 2 ≤ ps.length) : inns ps ≠ [] := by
  rw [inns_map]
  intro e
  have := congrArg List.length e
  rw [List.length_map] at this
  simp at this
  rw [this] at h
  exact absurd h (by decide)
theorem node_cut {k : Bool} {ps : List Ci} (h : (Ci.node k ps).ok) : ∃ p r, (Ci.node k ps).tx = p ++ 32 :: (if k = true then 38 else 124) :: r ∧ Itm p := by
  obtain ⟨h2, h3⟩ := h
  match ps, h2, h3 with
  | c :: d :: r, _, h3 => exact ⟨_, _, join_cons k (wrapL c c.tx) (wrapL d d.tx) (inns r), Ci.itm c h3.1⟩
theorem kind_inj {k j : Bool} (h : (if k = true then 38 else 124) = (if j = true then 38 else 124)) : k = j := by
  cases k <;> cases j <;> first | rfl | exact absurd h (by decide)
mutual
theorem tx_inj : ∀ c d : Ci, c.ok → d.ok → c.tx = d.tx → c = d
  | .eye n, .eye m, _, _, e => by
    have e : tl n = tl m := e
    rw [ext_tl e]
  | .eye n, .node k ps, h1, h2, e => by
    obtain ⟨p, r, e2, hp⟩ := node_cut h2
    have h3 := (Ci.itm (.eye n) h1).all
    have e : tl n = (Ci.node k ps).tx := e
    have h3 : scan 0 [] (tl n) = (tl n, []) := h3
    rw [e, e2, hp.cut] at h3
    injection h3 with a b
    cases b
  | .node k ps, .eye n, h2, h1, e => by
    obtain ⟨p, r, e2, hp⟩ := node_cut h2
    have h3 := (Ci.itm (.eye n) h1).all
    have e : (Ci.node k ps).tx = tl n := e
    have h3 : scan 0 [] (tl n) = (tl n, []) := h3
    rw [← e, e2, hp.cut] at h3
    injection h3 with a b
    cases b
  | .node k ps, .node j qs, h1, h2, e => by
    obtain ⟨p, r, e1, hp⟩ := node_cut h1
    obtain ⟨q, t, e2, hq⟩ := node_cut h2
    have hk : k = j := by
      have h3 := hp.cut (r := (if k = true then 38 else 124) :: r)
      rw [← e1, e, e2, hq.cut] at h3
      injection h3 with a b
      injection b with _ b
      injection b with b _
      exact (kind_inj b).symm
    subst hk
    have e3 := join_inj (k := k) (inns ps) (inns qs) (inns_ne h1.1) (inns_ne h2.1) (inns_itm ps h1.2) (inns_itm qs h2.2) e
    rw [inns_inj ps qs h1.2 h2.2 e3]
theorem inns_inj : ∀ ps qs : List Ci, oks ps → oks qs → inns ps = inns qs → ps = qs
  | [], [], _, _, _ => rfl
  | [], d :: s, _, _, e => by cases e
  | c :: r, [], _, _, e => by cases e
  | c :: r, d :: s, h1, h2, e => by
    have e : wrapL c c.tx :: inns r = wrapL d d.tx :: inns s := e
    injection e with a b
    have a : c.tx = d.tx := by
      cases c with
      | eye n =>
        cases d with
        | eye m => exact a
        | node j qs =>
          have a : tl n = 40 :: _ := a
          have h3 : nm n := h1.1
          have h4 := h3.2.2 40 (by rw [a]; exact List.mem_cons_self)
          omega
      | node k ps =>
        cases d with
        | eye m =>
          have a : 40 :: _ = tl m := a
          have h3 : nm m := h2.1
          have h4 := h3.2.2 40 (by rw [← a]; exact List.mem_cons_self)
          omega
        | node j qs =>
          have a : 40 :: ((Ci.node k ps).tx ++ [41]) = 40 :: ((Ci.node j qs).tx ++ [41]) := a
          injection a with _ a
          exact List.append_cancel_right a
    rw [tx_inj c d h1.1 h2.1 a, inns_inj r s h1.2 h2.2 b]
end
theorem str_inj {c d : Ci} (h1 : c.ok) (h2 : d.ok) (e : c.str = d.str) : c = d := tx_inj c d h1 h2 (by rw [← tl_str, ← tl_str, e])
end Eyes

set_option Elab.async false
set_option linter.all false
set_option maxRecDepth 100000
set_option maxHeartbeats 4000000
/-! Circles as the laws write them: tuples within tuples. -/
namespace Eyes
open PySem PySem.Spec PyProof.Rows L2 Evl TL
mutual
def Ci.data : Ci → PyData
  | .eye n => .tuple [.str "eye", .str n]
  | .node k ps => .tuple [.str (kindS k), .tuple (datas ps)]
def datas : List Ci → List PyData
  | [] => []
  | c :: r => c.data :: datas r
end
def dl : List Ci → List Ci → List Ci
  | acc, [] => acc
  | acc, c :: r => if (datas acc).any (fun z => PyData.eqv z c.data) = true then dl acc r else dl (acc ++ [c]) r
theorem flat_ok {k : Bool} : ∀ {cs : List Ci}, (∀ c ∈ cs, c.ok) → ∀ d ∈ flat k cs, d.ok
  | [], _, d, hd => by cases hd
  | c :: r, h, d, hd => by
    unfold flat at hd
    rcases List.mem_append.mp hd with hd | hd
    · by_cases g : c.isK k = true
      · rw [if_pos g] at hd
        cases c with
        | eye n => cases g
        | node j ps => exact oks_mem.mp (h (.node j ps) List.mem_cons_self).2 d hd
      · rw [if_neg g] at hd
        rw [List.mem_singleton.mp hd]
        exact h c List.mem_cons_self
    · exact flat_ok (fun e he => h e (List.mem_cons_of_mem _ he)) d hd
end Eyes

set_option Elab.async false
set_option linter.all false
set_option maxRecDepth 100000
set_option maxHeartbeats 4000000
/-! Normal circles: what joining gives, and what signs build. -/
namespace Eyes
open PySem PySem.Spec PyProof.Rows L2 Evl TL
mutual
def Ci.norm : Ci → Prop
  | .eye n => nm n
  | .node k ps => 2 ≤ ps.length ∧ (∀ c ∈ ps, c.isK k = false) ∧ ps.Nodup ∧ norms ps
def norms : List Ci → Prop
  | [] => True
  | c :: r => c.norm ∧ norms r
end
theorem norms_mem : ∀ {ps : List Ci}, norms ps ↔ ∀ c ∈ ps, c.norm
  | [] => ⟨fun _ _ h => (nomatch h), fun _ => True.intro⟩
  | c :: r => by
    show c.norm ∧ norms r ↔ _
    rw [norms_mem (ps := r)]
    constructor
    · rintro ⟨h1, h2⟩ d hd
      rcases List.mem_cons.mp hd with rfl | hd
      · exact h1
      · exact h2 d hd
    · intro h
      exact ⟨h c List.mem_cons_self, fun d hd => h d (List.mem_cons_of_mem _ hd)⟩
mutual
theorem Ci.norm_ok : ∀ c : Ci, c.norm → c.ok
  | .eye n, h => h
  | .node k ps, h => ⟨h.1, norms_ok ps h.2.2.2⟩
theorem norms_ok : ∀ ps : List Ci, norms ps → oks ps
  | [], _ => True.intro
  | c :: r, h => ⟨Ci.norm_ok c h.1, norms_ok r h.2⟩
end
theorem norm_of {c : Ci} (h : c.norm) : c.ok := c.norm_ok h
theorem any_str {acc : List Ci} {c : Ci} (h1 : ∀ d ∈ acc, d.ok) (h2 : c.ok) : acc.any (fun d => decide (d.str = c.str)) = true ↔ c ∈ acc := by
  rw [List.any_eq_true]
  constructor
  · rintro ⟨d, hd, e⟩
    rw [← str_inj (h1 d hd) h2 (of_decide_eq_true e)]
    exact hd
  · intro h
    exact ⟨c, h, decide_eq_true rfl⟩
theorem dd_is_nodup : ∀ {acc cs : List Ci}, (∀ d ∈ acc, d.ok) → (∀ d ∈ cs, d.ok) → acc.Nodup → (dd acc cs).Nodup
  | acc, [], _, _, h => h
  | acc, c :: r, h1, h2, h3 => by
    unfold dd
    have h4 : ∀ d ∈ r, d.ok := fun d hd => h2 d (List.mem_cons_of_mem _ hd)
    by_cases g : acc.any (fun d => decide (d.str = c.str)) = true
    · rw [if_pos g]
      exact dd_is_nodup h1 h4 h3
    · rw [if_neg g]
      have hc : c ∉ acc := fun h => g ((any_str h1 (h2 c List.mem_cons_self)).mpr h)
      refine dd_is_nodup (fun d hd => ?_) h4 ?_
      · rcases List.mem_append.mp hd with hd | hd
        · exact h1 d hd
        · rw [List.mem_singleton.mp hd]
          exact h2 c List.mem_cons_self
      · refine List.nodup_append.mpr ⟨h3, (by simp), fun a ha b hb => ?_⟩
        rw [List.mem_singleton.mp hb]
        intro e
        exact hc (e ▸ ha)
theorem flat_norm {k : Bool} : ∀ {cs : List Ci}, (∀ c ∈ cs, c.norm) → ∀ d ∈ flat k cs, d.norm ∧ d.isK k = false
  | [], _, d, hd => by cases hd
  | c :: r, h, d, hd => by
    unfold flat at hd
    have hc := h c List.mem_cons_self
    rcases List.mem_append.mp hd with hd | hd
    · by_cases g : c.isK k = true
      · rw [if_pos g] at hd
        cases c with
        | eye n => cases g
        | node j ps =>
          have hd2 : d ∈ ps := hd
          have g : (j == k) = true := g
          have e : j = k := by simpa using g
          subst e
          exact ⟨norms_mem.mp hc.2.2.2 d hd2, hc.2.1 d hd2⟩
      · rw [if_neg g] at hd
        rw [List.mem_singleton.mp hd]
        exact ⟨hc, by simpa using g⟩
    · exact flat_norm (fun e he => h e (List.mem_cons_of_mem _ he)) d hd
theorem mkC_norm {k : Bool} {cs : List Ci} (hne : cs ≠ []) (h : ∀ c ∈ cs, c.norm) : (mkC k cs).norm := by
  have hf := flat_norm (k := k) h
  have hok : ∀ d ∈ flat k cs, d.ok := fun d hd => norm_of (hf d hd).1
  have hsub : ∀ d ∈ pts k cs, d ∈ flat k cs := fun d hd => by
    rcases dd_sub hd with g | g
    · cases g
    · exact g
  by_cases h1 : (pts k cs).length = 1
  · obtain ⟨c, hc⟩ := List.length_eq_one_iff.mp h1
    rw [mkC_one hc]
    exact (hf c (hsub c (by rw [hc]; exact List.mem_cons_self))).1
  · rw [mkC_more h1]
    have hn : pts k cs ≠ [] := dd_ne (flat_ne (fun c hc => norm_of (h c hc)) hne)
    have := List.length_pos_iff.mpr hn
    exact ⟨by omega, fun d hd => (hf d (hsub d hd)).2, dd_is_nodup (fun _ h => by cases h) hok List.nodup_nil, norms_mem.mpr fun d hd => (hf d (hsub d hd)).1⟩
def some_of (k : Bool) : List Ci → Ci
  | [c] => c
  | ps => .node k ps
theorem sizes_append : ∀ a b : List Ci, sizes (a ++ b) = sizes a + sizes b
  | [], b => by show sizes b = 0 + sizes b; omega
  | c :: r, b => by
    show c.size + sizes (r ++ b) = (c.size + sizes r) + sizes b
    rw [sizes_append r b]
    omega
theorem sizes_flat {k : Bool} : ∀ cs : List Ci, sizes (flat k cs) = sizes cs
  | [] => rfl
  | c :: r => by
    unfold flat
    rw [sizes_append, sizes_flat r]
    show _ = c.size + sizes r
    by_cases g : c.isK k = true
    · rw [if_pos g]
      cases c with
      | eye n => cases g
      | node j ps => rfl
    · rw [if_neg g]
      rfl
end Eyes

set_option Elab.async false
set_option linter.all false
set_option maxRecDepth 100000
/-! The eyes of a circle: leaves, sorted lists of texts. -/
namespace Eyes
open PySem PySem.Spec PyProof.Rows L2 Evl TL
mutual
def Ci.leaves : Ci → List Str
  | .eye n => [n]
  | .node _ ps => leavess ps
def leavess : List Ci → List Str
  | [] => []
  | c :: r => c.leaves ++ leavess r
end
mutual
theorem Ci.leaves_len : ∀ c : Ci, c.leaves.length = c.size
  | .eye _ => rfl
  | .node _ ps => leavess_len ps
theorem leavess_len : ∀ ps : List Ci, (leavess ps).length = sizes ps
  | [] => rfl
  | c :: r => by
    show (c.leaves ++ leavess r).length = c.size + sizes r
    rw [List.length_append, Ci.leaves_len c, leavess_len r]
end
mutual
theorem Ci.leaves_ne : ∀ c : Ci, c.ok → c.leaves ≠ []
  | .eye _, _ => by intro h; cases h
  | .node _ ps, h => by
    intro e
    have h1 := Ci.leaves_len (.node true ps)
    have h2 := sizes_len ps h.2
    have h3 : 2 ≤ ps.length := h.1
    have e : leavess ps = [] := e
    have h1 : (leavess ps).length = sizes ps := h1
    rw [e, List.length_nil] at h1
    omega
end
def IsEyes (c : Ci) (ys : List Str) : Prop := sortedS ys = true ∧ ys.Nodup ∧ ∀ y, y ∈ ys ↔ y ∈ c.leaves
theorem nodup_le {α : Type} [DecidableEq α] : ∀ {a b : List α}, a.Nodup → (∀ y ∈ a, y ∈ b) → a.length ≤ b.length
  | [], _, _, _ => Nat.zero_le _
  | x :: r, b, n, h => by
    obtain ⟨nx, nr⟩ := List.nodup_cons.mp n
    have hx : x ∈ b := h x List.mem_cons_self
    have := nodup_le (a := r) (b := b.erase x) nr fun y hy => (List.mem_erase_of_ne (by intro e; exact nx (e ▸ hy))).mpr (h y (List.mem_cons_of_mem _ hy))
    rw [List.length_erase_of_mem hx] at this
    have : 0 < b.length := List.length_pos_of_mem hx
    rw [List.length_cons]
    omega
theorem IsEyes.len {c : Ci} {ys : List Str} (h : IsEyes c ys) : ys.length ≤ c.size := by
  rw [← Ci.leaves_len]
  exact nodup_le h.2.1 fun y hy => (h.2.2 y).1 hy
theorem IsEyes.ne {c : Ci} {ys : List Str} (h : IsEyes c ys) (hc : c.ok) : ys ≠ [] := by
  intro e
  subst e
  have := Ci.leaves_ne c hc
  cases hl : c.leaves with
  | nil => exact this hl
  | cons y r => exact absurd ((h.2.2 y).2 (by rw [hl]; exact List.mem_cons_self)) (by simp)
end Eyes

set_option Elab.async false
set_option linter.all false
set_option maxRecDepth 100000
set_option maxHeartbeats 4000000
/-! try with several clauses that name what they catch. -/
namespace Eyes
open PySem PySem.Spec PyProof.Rows L2
def endsAs (D : Ends) (j : Nat) : Ends := { nx := fun τ G => D.nx (τ.set j none) G, rt := D.rt, bk := fun τ G => D.bk (τ.set j none) G, ct := fun τ G => D.ct (τ.set j none) G }
def wAll (K : PySem.W.Frag) (D : Ends) : List (Value × Nat × (Addr → Value → Option Addr → TS)) → WX
  | [] => fun _ _ _ _ => False
  | (c, j, ts) :: r => fun cls d τ G => ∃ y, PySem.W.exmOne K cls c = some y ∧ (y = true → ∀ e, G e = none → ts e cls d (endsAs D j) (τ.set j (some (.ref e))) G) ∧ (y = false → wAll K D r cls d τ G)
inductive HdsAs (X : Cx) : List ExceptHandler → List (Value × Nat × (Addr → Value → Option Addr → TS)) → Prop
  | rest {hds : List ExceptHandler} : HdsAs X hds []
  | cons {x n : Str} {c : Value} {j : Nat} {ts : Addr → Value → Option Addr → TS} {st0 : Stmt} {sts : List Stmt} {p1 p2 : Pos} {hds : List ExceptHandler} {l : List (Value × Nat × (Addr → Value → Option Addr → TS))} (hc : Names X x c) (hi : X.N[j]? = some n) (hl : X.env.kindOf n = some .local)
      (su : ∀ (e : Addr) (oe : Obj) (cls : Value) (d : Option Addr) (pn : List (Addr × Obj)), Zc cls d oe → (∃ fs, oe.data = .fields fs) → PSs (X.suite e ((e, oe) :: pn)) (st0 :: sts) (ts e cls d)) (r : HdsAs X hds l) :
      HdsAs X (.ExceptHandler (some (.Name x p1)) (some n) (st0 :: sts) p2 :: hds) ((c, j, ts) :: l)
section
variable {X : Cx} {body : List Stmt} {h1 : ExceptHandler} {hds : List ExceptHandler} {l : List (Value × Nat × (Addr → Value → Option Addr → TS))} {pos : Pos} {tb : WX → TS}
theorem clauses_as {pins : List (Addr × Obj)} {τ : L2.St} {G : Hp} {D : Ends} {e : Addr} {B : Heap} {sI s1 : Shared} {cls : Value} {d : Option Addr} (ok : X.Ok) (hs : X.stack = X.env :: X.outer) (hf : X.env.frame = some X.env.locals) (hN : X.N.Nodup)
    (J : Inv X pins τ G sI) (nb : ∀ b o, sI.heap.get? b = some o → b ∉ frs X.stack → B.get? b = some o) (up : sI.heap.UpToSlots s1.heap) (fl : HandSPX.FlyingZ B (X.env :: X.outer) e (Zc cls d) s1.heap) (na : G e = none) (os : s1.os = sI.os) (ag : AllBare s1.gens)
    (nL : e ≠ X.env.locals) (nF : e ∉ X.fs) {hs' : List ExceptHandler} {l' : List (Value × Nat × (Addr → Value → Option Addr → TS))} (hh : HdsAs X hs' l') :
    wAll X.K D l' cls d τ G → wpAny (model X.prog X.w) X.A (handleBy (.ref e) X.env hs') (SP X pins D) X.xe s1 := by
  induction hh with
  | rest => exact fun z => z.elim
  | @cons x n c j ts st0 sts p1 p2 hds2 l2 hc hi hl su r ih =>
    rintro ⟨y, hy, yes, no⟩
    obtain ⟨oe, fs, he, hz, hd⟩ := fl.there
    have here : Inv X pins τ G s1 := J.landed nb fl.1 up os ag
    have inS := here.suite he hd na nL nF
    have cl : PySem.W.Looks (model X.prog X.w) s1.heap (typeOf (.ref e)) cls := fun A' Q' E' s' kp q => wpAny_typeOf_ref (kp _ _ he) (by rw [hz.1]; exact q)
    have mt := PySem.W.exm_one (M := model X.prog X.w) here.kIn cl hy
    have named : ∀ {Q' E' : Value → Shared → Prop}, Q' c s1 → wpAny (model X.prog X.w) (X.A.mark (some (.ref e))) (eval (.Name x p1) X.env) Q' E' s1 := by
      intro Q' E' q
      obtain ⟨g1, g2, g3 | ⟨g3, g4, g5⟩⟩ := hc
      · exact ld_glob (X := X.suite e ((e, oe) :: (X.pn ++ pins))) inS g1 g3 q g2
      · exact ld_blt (X := X.suite e ((e, oe) :: (X.pn ++ pins))) inS g1 g3 g4 q g5 g2
    refine wpAny_handleBy_cons (codeAny_handlers_test (named (mt.here ?_))) (fun z => nomatch z)
    cases y with
    | false => exact ih (no rfl)
    | true =>
      refine codeAny_handlers_suite_as (HandSPX.lands_againZ fl fun h4 fl4 up4 => ?_)
      obtain ⟨oe4, fs4, he4, hz4, hd4⟩ := fl4.there
      have at4 : Inv X pins τ G { s1 with heap := h4 } := J.landed nb fl4.1 (up.trans up4) os ag
      refine store_ok (X := X.suite e ((e, oe4) :: (X.pn ++ pins))) (v := .ref e) (at4.suite he4 hd4 na nL nF) hN hi (.inl hl) rfl (fun s5 I5 => ?_) (.inr hl)
      refine wpAny_mono ((su e oe4 cls d (X.pn ++ pins) hz4 ⟨_, hd4⟩).run [] s5 _ G _ I5 (yes rfl e na)) (fun f s6 q6 => ?_) (fun _ _ z => z.elim)
      have bare : ∀ {τ6 : L2.St} {G6 : Hp} {Q' : Shared → Prop}, Inv (X.suite e ((e, oe4) :: (X.pn ++ pins))) [] τ6 G6 s6 → (∀ s7, Inv X pins (τ6.set j none) G6 s7 → Q' s7) →
          wpAny (model X.prog X.w) X.A (do bindName X.env n .none; unbindBehindTheSuite X.env n p2) (fun _ s7 => Q' s7) X.xe s6 := fun {τ6 G6 Q'} I6 q => gone_ok (I6.unsuite ok) hN hi hl q
      cases f with
      | next =>
        obtain ⟨τ6, G6, I6, w6⟩ := q6
        exact bare I6 fun s7 I7 => ⟨_, _, I7, w6⟩
      | brk =>
        obtain ⟨τ6, G6, I6, w6⟩ := q6
        exact bare I6 fun s7 I7 => ⟨_, _, I7, w6⟩
      | cont =>
        obtain ⟨τ6, G6, I6, w6⟩ := q6
        exact bare I6 fun s7 I7 => ⟨_, _, I7, w6⟩
      | ret u =>
        obtain ⟨v6, τ6, G6, I6, r6, w6⟩ := q6
        exact bare I6 fun s7 I7 => ⟨_, _, _, I7, r6, w6⟩
theorem ps_tryAs (hs : X.stack = X.env :: X.outer) (hf : X.env.frame = some X.env.locals) (hN : X.N.Nodup)
    (hb : ∀ (W : WX) (pn : List (Addr × Obj)) (xe : Value → Shared → Prop), Takes (X.tr pn xe) W → PassesOwn (model X.prog X.w) X.A X.env xe → PSs (X.tr pn xe) body (tb W)) (hh : HdsAs X (h1 :: hds) l) :
    PS X (.Try body (h1 :: hds) [] [] pos) (fun D τ G => tb (wAll X.K D l) D τ G) := by
  refine ⟨fun pins s τ G D I h => ?_⟩
  have ok := I.ok
  have stk : X.A.frames = some (X.env :: X.outer) := ok.frames.trans (by rw [hs])
  have out : Takes (X.tr (X.pn ++ pins) (fun u s2 => wpAny (model X.prog X.w) X.A (noteFrame u X.env) (fun _ s3 => wpAny (model X.prog X.w) X.A (setFlight u none) (fun _ s4 => wpAny (model X.prog X.w) X.A (handleBy u X.env (h1 :: hds)) (SP X pins D) X.xe s4) X.xe s3) X.xe s2)) (wAll X.K D l) := by
    rintro u s' ⟨e, B, sI, pins', τ', G', cls, d, rfl, J', nb, up, sky, na, os, ag, w⟩
    have J : Inv X pins τ' G' sI := J'.ofTry ok
    refine Sky.land (B := B) (L := X.env.locals) (Z := Zc cls d) Zc.steady stk hf (by rw [← hs]; exact sky) fun h3 fl up3 => ?_
    obtain ⟨oe, fs, he, hz, hd⟩ := fl.there
    have away : e ∉ frs (X.env :: X.outer) := fun hm => by
      obtain ⟨_, o', e', nf⟩ := fl.2.2.1.mem hm
      cases he.symm.trans e'
      exact nf _ hd
    refine clauses_as (s1 := { s' with heap := h3 }) ok hs hf hN J nb (up.trans up3) fl na os ag (fun z => away (List.mem_filterMap.mpr ⟨X.env, List.mem_cons_self, by rw [hf, z]⟩)) (fun hm => ?_) hh w
    obtain ⟨v, hv, q⟩ := List.mem_filterMap.mp hm
    exact away (List.mem_filterMap.mpr ⟨v, List.mem_cons_of_mem _ hv, q⟩)
  refine wpAny_Try_except (wpAny_mono ((hb _ _ _ out PassesOwn.looking).run [] s τ G D (I.toTry _) h) (fun f s1 q => ?_) fun _ _ z => z)
  cases f with
  | next =>
    obtain ⟨τ1, G1, I1, w1⟩ := q
    exact wpAny_execs_nil ⟨τ1, G1, I1.ofTry ok, w1⟩
  | brk =>
    obtain ⟨τ1, G1, I1, w1⟩ := q
    exact ⟨τ1, G1, I1.ofTry ok, w1⟩
  | cont =>
    obtain ⟨τ1, G1, I1, w1⟩ := q
    exact ⟨τ1, G1, I1.ofTry ok, w1⟩
  | ret u =>
    obtain ⟨v1, τ1, G1, I1, r1, w1⟩ := q
    exact ⟨v1, τ1, G1, I1.ofTry ok, r1, w1⟩
end
end Eyes

set_option Elab.async false
set_option linter.all false
set_option maxRecDepth 100000
set_option maxHeartbeats 4000000
/-! Defs that may raise an own error; own errors that bear what they are given. -/
namespace Eyes
open PySem PySem.Spec PyProof.Rows L2
def PrX (P : Program) (w : World) (K : PySem.W.Frag) (mg : Str → Option Value) (base : Heap) (x : Str) (st : Stmt) (ps : List Str) (k : Nat) (sp : Sp) : Prop :=
  ∃ (f : Addr) (fd : FuncData), mg x = some (.ref f) ∧ Fun K x x st f fd ∧ Binds K fd ps [] ∧ FnOk P w K mg base (L2.CX P w) k f fd ps sp
section
variable {P : Program} {w : World} {K : PySem.W.Frag} {mg : Str → Option Value} {base : Heap}
theorem noneX : ∀ {outer : List Env} {s : Shared} {H : Hp} {e : Value} {s' : Shared}, L2.CX P w outer H s (fun _ _ _ => False) e s' → False := fun {outer s H e s'} h => by
  obtain ⟨_, _, _, _, _, _, _, _, _, _, _, _, z⟩ := h
  exact z
end
section
variable {X : Cx} {x : Str} {st : Stmt} {ps : List Str} {sp : Sp} {e : Expr} {es : List Expr} {kws : List Keyword} {p pos : Pos} {t tk : TA} {W : WX}
end
/-! ### own errors -/
structure ErrAt (K : PySem.W.Frag) (mg : Str → Option Value) (x : Str) (C : Addr) (qual : Str) (st : Stmt) (ps : List Str) : Prop where
  gC : mg x = some (.ref C)
  oex : OexC K C
  xf : XfC K C
  fn : ∃ (f : Addr) (fd : FuncData), PySem.W.findIn K (.ref C) "__init__" = some (some (.ref f)) ∧ PySem.W.typeIn K (.ref f) = some (.type "function") ∧ Fun K "__init__" qual st f fd ∧ Binds K fd ps []
theorem errAt_mk {K : PySem.W.Frag} {h : Heap} {mg : Str → Option Value} (X : K.In h) (G : h.Ns mainGlobals mg) {x qual : Str} {C f : Addr} {st : Stmt} {ps : List Str} {oc : Value} {od an : Option Addr} {osl : Array (Option Value)} {kV doc pm cdv ct : Value}
    {nm q : Str} {N : Addr} {bs bm sub : List Value} {sn : List Str} {ab : Bool} {col : Option Bool} {dd : Option Addr} {k0 k1 k2 k3 k5 : Option Value}
    (a : PySem.W.nsIn K mainGlobals x = some (some (.ref C))) (c1 : K.lookup C = some (excClassObj nm q C N bs bm true sn sub ab col dd k0 k1 k2 k3 k5 "ValueError.__new__")) (c2 : PySem.HandSPX.refsVE bm = true)
    (c3 : PySem.W.findIn K (.ref C) "__setattr__" = some (some (.builtin "object.__setattr__"))) (c4 : PySem.W.subIn K (.ref C) (.type "BaseException") = some true) (c5 : PySem.W.typeIn K (.ref C) = some (.type "type")) (c6 : PySem.W.keepIn K (.ref C) = true)
    (c7 : xfB K C = true) (i1 : PySem.W.findIn K (.ref C) "__init__" = some (some (.ref f))) (i2 : PySem.W.typeIn K (.ref f) = some (.type "function"))
    (l : K.lookup f = some ⟨oc, od, .func (PySem.W.fnOf "__init__" qual (defArgs st) (defBody st) (defScope st) .none kV doc pm an cdv ct), osl⟩) (c : PySem.W.codeIn K cdv qual = true) (k : PySem.W.keepIn K (.ref f) = true) (hb : BindH "__init__" qual st ps) : ErrAt K mg x C qual st ps :=
  ⟨PySem.W.mg_of X G a, ⟨⟨_, _, _, _, _, _, _, _, _, _, _, _, _, _, _, c1, c2⟩, c3, c4, c5, c6⟩, xfB_ok c7, f, _, i1, i2, fun_mk l c k, (fun_mk l c k).binds hb⟩
def spErr1 (C : Addr) (g : Str) : Sp := fun vs H Q _ => ∃ (a : Addr) (v : V), vs = [.ref a, v] ∧ H a = some (exo a C none) ∧ ∀ d, H d = none → d ≠ a → Q .non (upd (upd H d (exd d [(g, v)])) a (exo a C (some d)))
theorem gone_to {H1 : Hp} {a d : Addr} {o1 o2 o3 o4 : HO} (n : H1 a = none) (ne : d ≠ a) : upd (del (upd (upd (upd H1 a o1) d o2) a o3) a) d o4 = upd H1 d o4 := by
  funext b
  by_cases hb : b = d
  · rw [hb, upd_same, upd_same]
  · rw [upd_ne hb, upd_ne hb]
    by_cases ha : b = a
    · rw [ha, del_same, n]
    · rw [del_ne ha, upd_ne ha, upd_ne hb, upd_ne ha]
section
variable {X : Cx} {W : WX} {e : Expr} {ta : TA} {p pos pos2 : Pos} {x g qual : Str} {C : Addr} {st : Stmt} {ps : List Str} {j k : Nat}
theorem raise1_by {H1 : Hp} {v : V} {Q : XK} (q : ∀ d, H1 d = none → Q (.ref C) (some d) (upd H1 d (.xd [(g, v)]))) :
    [v].length ≤ 1000 ∧ ∀ a, H1 a = none → spErr1 C g (.ref a :: ([v] ++ [])) (upd H1 a (exo a C none)) (fun v H2 => v = .non ∧ ∃ (d : Addr) (fs : List (Str × V)), H2 a = some (exo a C (some d)) ∧ H2 d = some (exd d fs) ∧ H1 d = none ∧ Q (.ref C) (some d) (upd (del H2 a) d (.xd fs))) (fun _ _ _ => False) := by
  refine ⟨by show 1 ≤ 1000; decide, fun a na => ⟨a, v, rfl, upd_same, fun d nd ne => ?_⟩⟩
  rw [upd_ne ne] at nd
  refine ⟨rfl, d, _, upd_same, (upd_ne ne).trans upd_same, nd, ?_⟩
  rw [gone_to na ne]
  exact q d nd
theorem ps_raise1 (T : ErrAt X.K X.mg x C qual st ps) (F : ∀ f fd, Fun X.K "__init__" qual st f fd → Binds X.K fd ps [] → FnOk X.prog X.w X.K X.mg X.base CX0 j f fd ps (spErr1 C g)) (hc : X.calm = true) (tk : Takes X W) (hr : Room k X.A) (ha : PA X [e] ta) (hj : j + 1 ≤ k := by first | decide | omega) (hg : Gl X x := by rfl)
    (hdb : (x == ("__debug__" : Str)) = false := by decide) (he : starEach [e] X.env = (false, eval e X.env) :: starEach [] X.env := by rfl) (hpl : (backTo pos (starEach [] X.env)).any (·.1) = false := by rfl) :
    PS X (.Raise (some (.Call (.Name x p) [e] [] pos)) none pos2) (fun _ σ H => tMkO C (spErr1 C g) [] ta σ H fun cls d H' => W cls d σ H') := by
  obtain ⟨f, fd, i1, i2, F0, hb⟩ := T.fn
  exact ps_raise hc tk (pmk_oex T.oex i1 i2 (F f fd F0 hb) (hr.mono hj) hb .nil (fun _ _ _ _ _ _ _ h => h.elim) hg T.gC ha hdb he hpl)
end
end Eyes

set_option Elab.async false
set_option linter.all false
set_option maxRecDepth 100000
set_option maxHeartbeats 4000000
/-! Lambdas handed on through several defs. -/
namespace Eyes
open PySem PySem.Spec PyProof.Rows L2 LamX
def CallF (P : Program) (w : World) (K : PySem.W.Frag) (mg : Str → Option Value) (base : Heap) (k : Nat) (fr : List Addr) (H0 : Hp) (h0 : Heap) (f c' : Addr) (q : Str) (tl : XK → Hp → VK → Prop) : Prop :=
  ∀ (A : Around) (outer : List Env) (s1 : Shared) (HZ : Hp) (Q : VK) (E : XK), Room (k + 1) A → Env0 P w K mg base A outer s1 HZ → Un fr [] H0 HZ h0 s1.heap → HZ c' = some (CodeO c' q) → tl E HZ Q →
    PySem.W.FnAt f s1.heap ∧ codeAny (model P w) A (.call (.ref f) ⟨[], []⟩) (CR (L2.CX P w) outer P w HZ s1 Q E) s1
section
variable {X : Cx} {pins : List (Addr × Obj)} {σ : L2.St} {H : Hp} {s : Shared}
theorem callF_of {f c' : Addr} {pm ctv : Value} {params : Arguments} {body : Expr} {scope : Scope} {k : Nat} {tb : XK → TE}
    (I : Inv X pins σ H s) (L : LamS X.env.scope scope) (hf : s.heap.get? f = some (PySem.W.kla_obj "<lambda>" (X.env.qual ++ "<lambda>") params body scope (cloFrom X.env.cells scope.names []) pm c' ctv)) (hfn : H f = none) (hfr : f ∉ frs X.stack)
    (hbind : bindArgs (PySem.W.kla_fn "<lambda>" (X.env.qual ++ "<lambda>") params body scope (cloFrom X.env.cells scope.names []) pm (.ref c') ctv) ⟨[], []⟩ = pure [])
    (hbody : ∀ (A : Around) (outer : List Env) (s : Shared) (H : Hp) (E : XK), Room k (A.deeper (lamEnv X scope s.heap.objs.size f c')) → PE (lamCx X A outer s H E scope f c') body (tb E)) :
    CallF X.prog X.w X.K X.mg X.base k (frs X.stack) H s.heap f c' (X.env.qual ++ "<lambda>") (fun E HZ Q => tb E σ HZ Q) := by
  intro A outer s1 HZ Q E hr e0 un hc ht
  have of1 : s1.heap.get? f = some (PySem.W.kla_obj "<lambda>" (X.env.qual ++ "<lambda>") params body scope (cloFrom X.env.cells scope.names []) pm c' ctv) := un.keep f _ hf hfn hfr (fun z => nomatch (show f ∈ ([] : List Addr) from z))
  obtain ⟨⟨oc, vs, t, hoc, hdc, hvc⟩, _, _⟩ := e0.hok c' _ hc
  have lim : s1.heap.NoLimit := e0.mod.nolimit.keeps fun b o e => (e0.bs b o e).1
  refine ⟨⟨_, _, _, _, of1⟩, ?_⟩
  refine PySem.W.kla_callFunE hr.depth of1 rfl L.co L.gen rfl ⟨c', oc, vs, t, rfl, hoc, hdc, hvc⟩ ?_
  rw [hbind]
  refine wpAny_pure (wpAny_newFunctionEnv (fun y hy => (L.own y hy).2) (fun y hy => absurd hy (by simp)) (fun h₁ hns hsb => ⟨lim.fresh _ hsb, ?_⟩) L.kind)
  show codeAny _ _ (.expr body (lamEnv X scope s1.heap.objs.size f c')) _ _
  have kp : ∀ b o, s1.heap.get? b = some o → h₁.get? b = some o := fun b o e => hsb.extBut b o (Nat.ne_of_lt (Heap.lt_size e)) (Heap.get?_push_of_some _ e)
  have J : Inv (lamCx X A outer s1 HZ E scope f c') [] σ HZ { s1 with heap := h₁, toks := s1.toks + ([] : List (Str × Value)).length } :=
    lam_start2 I L e0 hr.hd un hns kp
  refine PySem.W.kla_codeExpr (wpAny_mono ((hbody _ _ s1 HZ E (hr.deeper _)).run [] _ _ HZ Q J ht) (fun v s' hq => ?_) fun e s' hq => hq)
  obtain ⟨w', H', J', rv, q⟩ := hq
  exact ⟨w', H', J'.os, J'.bare, J'.base, J'.hok, rv, q⟩
end
theorem CallF.step {P : Program} {w : World} {K : PySem.W.Frag} {mg : Str → Option Value} {base : Heap} {k : Nat} {fr fr' : List Addr} {H0 H1 : Hp} {h0 h1 : Heap} {f c' : Addr} {q : Str} {tl : XK → Hp → VK → Prop} (C : CallF P w K mg base k fr H0 h0 f c' q tl) (u : Un fr [] H0 H1 h0 h1)
    (hs : ∀ b ∈ fr', b ∈ fr ∨ h0.get? b = none) (hs2 : ∀ b ∈ fr, b ∈ fr') : CallF P w K mg base k fr' H1 h1 f c' q tl := by
  intro A outer s1 HZ Q E hr e0 un hc ht
  have v := (u.mono (fs' := fr') (ex' := []) hs2 fun _ z => z).trans un
  exact C A outer s1 HZ Q E hr e0 ⟨fun b o q n hb hx => v.keep b o q n (fun z => (hs b z).elim hb fun z2 => by rw [z2] at q; cases q) hx, fun b o q n hb hx => v.any q n hx, v.free, v.there, v.tups, v.frzs, v.tbls⟩ hc ht
def FnC (P : Program) (w : World) (K : PySem.W.Frag) (mg : Str → Option Value) (base : Heap) (kk k : Nat) (g : Addr) (TT : (XK → Hp → VK → Prop) → Hp → VK → Prop) : Prop :=
  ∀ (A : Around) (outer : List Env) (s : Shared) (H : Hp) (f c' : Addr) (q : Str) (tl : XK → Hp → VK → Prop) (Q : VK), Room k A → Env0 P w K mg base A outer s H → CallF P w K mg base kk (frs outer) H s.heap f c' q tl → H c' = some (CodeO c' q) → TT tl H Q →
    codeAny (model P w) A (.call (.ref g) ⟨[.ref f], []⟩) (CR C8.CX0 outer P w H s Q C8.E0) s
def PrC (P : Program) (w : World) (K : PySem.W.Frag) (mg : Str → Option Value) (base : Heap) (x : Str) (kk k : Nat) (TT : (XK → Hp → VK → Prop) → Hp → VK → Prop) : Prop :=
  ∃ g : Addr, mg x = some (.ref g) ∧ PySem.W.keepIn K (.ref g) = true ∧ FnC P w K mg base kk k g TT
theorem prC_mk {P : Program} {w : World} {K : PySem.W.Frag} {mg : Str → Option Value} {base : Heap} {x a : Str} {st : Stmt} {N : List Str} {kk k : Nat} {TT : (XK → Hp → VK → Prop) → Hp → VK → Prop} (FA : FnAt K mg x st [a]) (S : FnScope N [a] (defScope st))
    (hbody : ∀ (g : Addr) (cdg : Value) (A : Around) (outer : List Env) (s : Shared) (H : Hp) (f c' : Addr) (q : Str) (tl : XK → Hp → VK → Prop) (Q : VK), Room k (A.deeper (envOfC x (defScope st) s.heap.objs.size g cdg)) → CallF P w K mg base kk (frs outer) H s.heap f c' q tl → H c' = some (CodeO c' q) → TT tl H Q →
      ∃ t, PSs (cxOf C8.CX0 P w K mg base N x (defScope st) g cdg A outer s H C8.E0).nox (defBody st) t ∧ t { nx := fun _ H' => Q .non H', rt := Q } (L2.start N [.ref f]) H) : PrC P w K mg base x kk (k + 1) TT := by
  obtain ⟨g, fd, F, hb, hm⟩ := FA
  refine ⟨g, hm, F.kp, fun A outer s H f c' q tl Q hr e0 C hc ht => ?_⟩
  obtain ⟨oc, od, kV, doc, pm, an, cdv, ct, osl, rfl, lk, hcd⟩ := F.ex
  have KX : K.In s.heap := e0.mod.kin.keeps fun b o e => (e0.bs b o e).1
  refine run_ofS (N := N) (ps := [a]) (us := [.ref f]) (vs := [.ref f]) lk hcd S hr e0 (hb s [.ref f] KX rfl) (.cons rfl .nil) rfl fun hr' => ?_
  obtain ⟨t', ht', hq'⟩ := hbody g cdv A outer s H f c' q tl Q hr' C hc ht
  exact ⟨t', ht'.nox, hq'⟩
section
variable {X : Cx}
theorem pe_lamh {T : List (Addr × Str)} {TT : (XK → Hp → VK → Prop) → Hp → VK → Prop} {x : Str} {c P : Addr} {kk j k : Nat} {params : Arguments} {body : Expr} {scope : Scope} {t : XK → TE} {p lpos pos : Pos} (G : PrC X.prog X.w X.K X.mg X.base x kk j TT) (hg : Gl X x)
    (TB : TabB X.base X.mg c P) (hcode : X.env.code = .ref c) (hmT : (P, X.env.qual ++ "<lambda>") ∈ T) (hu : ∀ p ∈ T, p.1 = P → p.2 = X.env.qual ++ "<lambda>") (hr : Room k X.A) (hj : j ≤ k) (L : LamS X.env.scope scope) (hdef : defaultsOf params X.env = ([], []))
    (hbind : ∀ (q : Str) (cl : List (Str × Addr)) (pm cv ctv : Value), bindArgs (PySem.W.kla_fn "<lambda>" q params body scope cl pm cv ctv) ⟨[], []⟩ = pure [])
    (hbody : ∀ (A : Around) (outer : List Env) (s : Shared) (H : Hp) (E : XK) (f c' : Addr), Room kk (A.deeper (lamEnv X scope s.heap.objs.size f c')) → PE (lamCx X A outer s H E scope f c') body (t E))
    (hdb : (x == ("__debug__" : Str)) = false := by decide) :
    PE X (.Call (.Name x p) [.Lambda params body scope lpos] [] pos) (tLam T TT t) := by
  obtain ⟨g, hm, hk, F⟩ := G
  refine ⟨fun pins s σ H Q I h => ?_⟩
  obtain ⟨hT, h⟩ := h
  refine wpAny_Call_Name_kw (ld_glob I hg hm ?_ hdb)
  refine PySem.W.callWith_K (h₀ := X.base) I.ok.mod.kin hk ?_ (by rfl) (by rfl)
  show wpAny _ _ (spliced ((false, eval (.Lambda params body scope lpos) X.env) :: backTo pos (starEach [] X.env))) _ _ s
  refine Calls.spliced_cons (lam_make2 I TB hcode hmT hu hT hdef (L.has I.ok) fun f c' pm' ctv H1 s' I1 eN T1 hf hfn hfr hco => ?_)
  refine Calls.spliced_nil ⟨I1.kIn, ?_⟩
  have rc := F X.A X.stack s' H1 f c' (X.env.qual ++ "<lambda>") (fun E H' Q' => t E σ H' Q') Q (hr.mono hj) I1.env0 (callF_of (k := kk) I1 L hf hfn hfr (hbind _ _ _ _ _) fun A outer s H E hr2 => hbody A outer s H E f c' hr2) hco (h H1 eN T1)
  refine wpAny_call (codeAny_mono rc fun r s2 hq => ?_)
  cases r with
  | error e => exact (show False from hq).elim
  | ok fl =>
    cases fl with
    | ret u => exact I1.after hq
    | next => exact False.elim hq
    | brk => exact False.elim hq
    | cont => exact False.elim hq
end
end Eyes

set_option Elab.async false
set_option linter.all false
set_option maxRecDepth 100000
set_option maxHeartbeats 4000000
/-! A lambda whose one parameter has a number as its default, made and handed on. -/
namespace Eyes
open PySem PySem.Spec PyProof.Rows L2 LamX
abbrev fnL (q : Str) (params : Arguments) (body : Expr) (scope : Scope) (cl : List (Str × Addr)) (dV pm cdv ctv : Value) : FuncData :=
  { name := "<lambda>", qualname := q, params, body := .expr body, scope, globals := mainGlobals, closure := cl, defaults := dV, kwdefaults := .none, doc := .none, pyModule := pm, annotations := none, code := cdv, closureTuple := ctv, builtins := builtinsNs }
abbrev obL (q : Str) (params : Arguments) (body : Expr) (scope : Scope) (cl : List (Str × Addr)) (dV pm cdv ctv : Value) : Obj := { cls := .type "function", data := .func (fnL q params body scope cl dV pm cdv ctv) }
abbrev obT (u : Value) : Obj := { cls := .type "tuple", data := .seq [u].toArray }
section
variable {M : Model} {A : Around} {E : Value → Shared → Prop} {s : Shared} {q : Str} {params : Arguments} {body : Expr} {scope : Scope} {env : Env} {c P : Addr} {ps : Array Value} {pos : Pos} {line : Nat} {mg : Str → Option Value} {cl : List (Str × Addr)} {Q : Value → Shared → Prop} {dV : Value}
end
structure LamN (N : List Str) (sc scope : Scope) : Prop where
  kind : scope.kind = .function
  co : scope.isCoroutine = false
  gen : scope.isGenerator = false
  cel : ∀ y ∈ scope.names, y.2 ≠ .cell
  loc : ∀ y ∈ scope.names, y.2 = .local → y.1 ∉ N
  free : ∀ y ∈ scope.names, y.2 = .free → sc.names.lookup y.1 = some .cell ∨ sc.names.lookup y.1 = some .free
def lamNB (N : List Str) (sc scope : Scope) : Bool :=
  decide (scope.kind = .function) && (!scope.isCoroutine && (!scope.isGenerator && scope.names.all fun y => !decide (y.2 = .cell) && ((!decide (y.2 = .local) || !N.contains y.1) && (!decide (y.2 = .free) || (decide (sc.names.lookup y.1 = some .cell) || decide (sc.names.lookup y.1 = some .free))))))
theorem LamN.has {N : List Str} {X : Cx} {scope : Scope} (L : LamN N X.env.scope scope) (ok : X.Ok) : ∀ y ∈ scope.names, y.2 = .free → ∃ c, X.env.cells.lookup y.1 = some c := fun y hy e => by
  rcases L.free y hy e with k | k
  · exact ok.has _ (.inl k)
  · exact ok.has _ (.inr k)
section
variable {X : Cx} {pins : List (Addr × Obj)} {σ : L2.St} {H : Hp} {s : Shared}
def BindD (params : Arguments) (body : Expr) (scope : Scope) (a : Str) : Prop :=
  (∀ (q : Str) (cl : List (Str × Addr)) (t : Addr) (pm cv ctv u : Value), ∃ k, bindArgs (fnL q params body scope cl (.ref t) pm cv ctv) ⟨[], []⟩ = seqItems? (.ref t) >>= k ∧ k (some [u].toArray) = pure [(a, u)]) ∧ scope.names.lookup a = some .local
end
section
variable {X : Cx}
end
end Eyes

set_option Elab.async false
set_option linter.all false
set_option maxRecDepth 100000
set_option maxHeartbeats 4000000
/-! What was handed on is asked within a try. -/
namespace Eyes
open PySem PySem.Spec PyProof.Rows L2 LamX
theorem pe_ask2 {CXg : CXT} {P : Program} {w : World} {K : PySem.W.Frag} {mg : Str → Option Value} {base : Heap} {Eg : XK} {Ng : List Str} {qg : Str} {sg : Scope} {g f c' : Addr} {cdg : Value} {A : Around} {outer : List Env} {s : Shared} {H : Hp} {k i : Nat} {a q : Str} {pn : List (Addr × Obj)} {xe : Value → Shared → Prop} {W : WX} {tl : XK → Hp → VK → Prop} {p1 p2 : Pos}
    (C : CallF P w K mg base k (frs outer) H s.heap f c' q tl)
    (tk : Takes ((cxOf CXg P w K mg base Ng qg sg g cdg A outer s H Eg).tr pn xe) W) (hr : Room (k + 1) (A.deeper (envOfC qg sg s.heap.objs.size g cdg)))
    (hN : Ng[i]? = some a) (hv : Vis sg a) (hd : (a == ("__debug__" : Str)) = false := by decide) (hcd : (a == ("__classdict__" : Str)) = false := by decide) :
    PE ((cxOf CXg P w K mg base Ng qg sg g cdg A outer s H Eg).tr pn xe) (.Call (.Name a p1) [] [] p2)
      (fun σZ HZ Q => σZ[i]? = some (some (.ref f)) ∧ HZ c' = some (CodeO c' q) ∧ ∃ (E1 : XK) (Q1 : VK), tl E1 HZ Q1 ∧ (∀ v H', Q1 v H' → Q v H') ∧ ∀ cls d H', E1 cls d H' → W cls d σZ H') := by
  refine ⟨fun pinsZ sZ σZ HZ Q IZ h => ?_⟩
  obtain ⟨hs, hc, E1, Q1, ht, hQ, hE⟩ := h
  refine wpAny_Call_Name_kw (thn ((pe_var (pos := p1) (i := i) hN hv hd hcd).run pinsZ sZ σZ HZ (fun v H1 => v = .ref f ∧ H1 = HZ) IZ ⟨.ref f, hs, rfl, rfl⟩) fun u s1 ⟨v, H1, I1, r1, q1⟩ => ?_)
  obtain ⟨ev, eH⟩ := q1
  subst ev
  rw [eH] at I1
  obtain rfl : u = Value.ref f := r1
  have un : Un (frs outer) [] H HZ s.heap s1.heap := I1.base
  obtain ⟨fa, rc⟩ := C _ _ s1 HZ Q1 E1 hr I1.env0 un hc ht
  refine PySem.W.callWith_F0 fa ?_
  refine wpAny_call (codeAny_mono rc fun r s' hq => ?_)
  cases r with
  | error e => exact tk e s' (XE.of_call I1 (fun cls d H' z => hE cls d H' z) hq)
  | ok fl =>
    cases fl with
    | ret u =>
      obtain ⟨v, H', a1, a2, a3, a4, a5, q1⟩ := hq
      exact I1.after ⟨v, H', a1, a2, a3, a4, a5, hQ v H' q1⟩
    | next => exact False.elim hq
    | brk => exact False.elim hq
    | cont => exact False.elim hq
end Eyes

set_option Elab.async false
set_option linter.all false
set_option maxRecDepth 100000
set_option maxHeartbeats 4000000
/-! Defs that make lambdas: their code object is named. -/
namespace Eyes
open PySem PySem.Spec PyProof.Rows L2 LamX
def FnAtC (K : PySem.W.Frag) (mg : Str → Option Value) (x : Str) (st : Stmt) (ps : List Str) (c : Addr) : Prop :=
  ∃ (f : Addr) (oc : Value) (od : Option Addr) (kV doc pm : Value) (an : Option Addr) (ct : Value) (osl : Array (Option Value)), K.lookup f = some ⟨oc, od, .func (PySem.W.fnOf x x (defArgs st) (defBody st) (defScope st) .none kV doc pm an (.ref c) ct), osl⟩ ∧ PySem.W.codeIn K (.ref c) x = true ∧ PySem.W.keepIn K (.ref f) = true ∧
    Binds K (PySem.W.fnOf x x (defArgs st) (defBody st) (defScope st) .none kV doc pm an (.ref c) ct) ps [] ∧ mg x = some (.ref f)
section
variable {P : Program} {w : World} {K : PySem.W.Frag} {mg : Str → Option Value} {base : Heap}
theorem fnAtC_mk {h : Heap} (X : K.In h) (G : h.Ns mainGlobals mg) {x : Str} {st : Stmt} {ps : List Str} {f c : Addr} {oc : Value} {od an : Option Addr} {osl : Array (Option Value)} {kV doc pm ct : Value} (a : PySem.W.nsIn K mainGlobals x = some (some (.ref f)))
    (l : K.lookup f = some ⟨oc, od, .func (PySem.W.fnOf x x (defArgs st) (defBody st) (defScope st) .none kV doc pm an (.ref c) ct), osl⟩) (cd : PySem.W.codeIn K (.ref c) x = true) (k : PySem.W.keepIn K (.ref f) = true) (hb : BindH x x st ps) : FnAtC K mg x st ps c :=
  ⟨f, oc, od, kV, doc, pm, an, ct, osl, l, cd, k, (fun_mk l cd k).binds hb, PySem.W.mg_of X G a⟩
theorem pr_mkC {x : Str} {st : Stmt} {N ps : List Str} {k : Nat} {c : Addr} {sp : Sp} (A : FnAtC K mg x st ps c) (S : FnScope N ps (defScope st)) (len : ∀ vs H Q E, sp vs H Q E → vs.length = ps.length)
    (hbody : ∀ (f : Addr) (A : Around) (outer : List Env) (s : Shared) (H : Hp) (vs : List V) (Q : VK) (E : XK), Room k (A.deeper (envOfC x (defScope st) s.heap.objs.size f (.ref c))) → sp vs H Q E →
      ∃ t, PSs (cxOf CX0 P w K mg base N x (defScope st) f (.ref c) A outer s H E).nox (defBody st) t ∧ t { nx := fun _ H' => Q .non H', rt := Q } (start N vs) H) : Pr P w K mg base x st ps (k + 1) sp := by
  obtain ⟨f, oc, od, kV, doc, pm, an, ct, osl, lk, hcd, kp, hb, hm⟩ := A
  refine ⟨f, _, hm, fun_mk lk hcd kp, hb, fn_of lk hcd S len fun A outer s H vs Q E hr hsp => ?_⟩
  obtain ⟨t, h, q⟩ := hbody f A outer s H vs Q E hr hsp
  exact ⟨t, h.nox, q⟩
theorem codeHd_mk {h : Heap} {c T : Addr} {o : Obj} {vs : Array Value} {file : Str} {tf tg tt : Tok} {flags text : Int} {inF : Bool} (X : K.In h) (l : K.lookup c = some o) (h1 : o.cls = .type "code") (h2 : o.data = .fields vs) (h3 : vs[11]? = some (.ref T)) (h4 : vs.getD 11 .none = .ref T) (h5 : vs.getD 18 .none = .str file tf)
    (h6 : vs.getD 7 .none = .int flags tg) (h7 : vs.getD 9 .none = .bool inF) (h8 : vs.getD 10 .none = .int text tt) (n : c ≠ T) : PySem.W.CodeHd h c T :=
  ⟨o, vs, file, tf, flags, tg, inF, text, tt, X _ _ l, h1, h2, h3, h4, h5, h6, h7, h8, n⟩
end
theorem tabs_new {T : List (Addr × Str)} {H : Hp} (h : ∀ p ∈ T, H p.1 = some (.tbl #[])) : Tabs T H := fun p hp => by
  refine ⟨#[], h p hp, ?_, fun pos cv z => ?_⟩
  · trivial
  · cases z
end Eyes

set_option Elab.async false
set_option linter.all false
set_option maxRecDepth 100000
set_option maxHeartbeats 4000000
/-! Defs of a star parameter alone, which may raise. -/
namespace Eyes
open PySem PySem.Spec PyProof.Rows L2
def FnAtR (K : PySem.W.Frag) (mg : Str → Option Value) (x : Str) (st : Stmt) : Prop := ∃ (f : Addr) (fd : FuncData), Fun K x x st f fd ∧ mg x = some (.ref f)
def PrR (P : Program) (w : World) (K : PySem.W.Frag) (mg : Str → Option Value) (base : Heap) (x : Str) (k : Nat) (sp : Sp) : Prop :=
  ∃ f : Addr, mg x = some (.ref f) ∧ PySem.W.keepIn K (.ref f) = true ∧ FnR P w K mg base (L2.CX P w) k f sp
def spStar (sp : Sp) : Sp := fun vs H Q E => vs.length ≤ sizeLine ∧ ∀ p, H p = none → sp [.ref p] (upd H p (.tup vs)) Q E
abbrev BindStar (x : Str) (st : Stmt) (a : Str) : Prop := ∀ (kV doc pm : Value) (an : Option Addr) (cdv ct : Value) (rest : List Value), bindArgs (PySem.W.fnOf x x (defArgs st) (defBody st) (defScope st) .none kV doc pm an cdv ct) ⟨rest, []⟩ = (newTuple rest >>= fun t => pure [(a, t)])
section
variable {P : Program} {w : World} {K : PySem.W.Frag} {mg : Str → Option Value} {base : Heap}
end
section
variable {X : Cx} {x : Str} {sp : Sp} {E : XK} {e : Expr} {es : List Expr} {p pos : Pos} {t : TA} {j k : Nat}
end
end Eyes

set_option Elab.async false
set_option linter.all false
set_option maxRecDepth 100000
set_option maxHeartbeats 4000000
/-! enumerate(tuple) in a for. -/
namespace Eyes
open PySem PySem.Spec PyProof.Rows L2
theorem meets_enum1 {v : Value} {o : Obj} {HB : Heap → Prop} (B : Begins v o HB) :
    Meets (Builtin.«enumerate.__new__» ⟨[.type "enumerate", v], []⟩) (fun _ R s => HB s.heap ∧
      R (.ok (.ret (.ref (s.heap.push o).objs.size))) { s with heap := (s.heap.push o).push { cls := .type "enumerate", data := .fields #[.none, .bool false, .ref s.heap.objs.size, rawInt 0, .none, .none] } }) :=
  .of_wp fun prog w A R s h => by
    obtain ⟨hp, g, d, tk, os⟩ := s
    obtain ⟨h1, h⟩ := h
    have sub1 := sub_enumerate
    have it1 : ∀ {A' : Around} {E : Value → Shared → Prop} {Q : Value → Shared → Prop}, Q (.ref hp.objs.size) ⟨hp.push o, g, d, tk, os⟩ → wpAny (model prog w) A' (pyIter v) Q E ⟨hp, g, d, tk, os⟩ := fun q => B.iter prog w _ _ ⟨hp, g, d, tk, os⟩ _ h1 q
    wp_walk using it1
    refine wpAny_stack_any fun st => wpAny_pure ?_
    split
    · rename_i c _ _ _ _ _
      cases (c == Value.type "enumerate")
      · wp_walk using it1
        exact ⟨_, rfl, h⟩
      · wp_walk using it1
        exact ⟨_, rfl, h⟩
    · wp_walk using it1
      exact ⟨_, rfl, h⟩
section
variable {prog : Program} {w : World} {A : Around} {E : Value → Shared → Prop} {s : Shared}
theorem enum1_begins {v : Value} {o : Obj} {HB : Heap → Prop} {Q : Value → Shared → Prop} (B : Begins v o HB) (h1 : HB s.heap)
    (q : ∀ h', IsEnum h' (s.heap.objs.size + 1) s.heap.objs.size 0 .none → h'.get? s.heap.objs.size = some o → h'.objs.size = s.heap.objs.size + 2 → (∀ b u, s.heap.get? b = some u → h'.get? b = some u) → Q (.ref (s.heap.objs.size + 1)) { s with heap := h' }) :
    wpAny (model prog w) A (call (.type "enumerate") [v]) Q E s := by
  refine callType_new PySem.F.called_enumerate (by decide) (PySem.F.typeCall_enumerate_1 _) (PySem.F.newCall_enumerate_1 _) (fun ob => PySem.F.args_object_init_2 ob _) PySem.F.entry_enumerate_new (meets_enum1 B) ⟨h1, ?_⟩
  have z1 : (s.heap.push o).objs.size = s.heap.objs.size + 1 := Heap.size_push ..
  show _ ∧ _
  rw [z1]
  have en : IsEnum ((s.heap.push o).push { cls := .type "enumerate", data := .fields #[.none, .bool false, .ref s.heap.objs.size, rawInt 0, .none, .none] }) (s.heap.objs.size + 1) s.heap.objs.size 0 .none := by
    have y := Heap.get?_push_size (s.heap.push o) (o := { cls := .type "enumerate", data := .fields #[.none, .bool false, .ref s.heap.objs.size, rawInt 0, .none, .none] }) rfl
    rw [z1] at y
    exact y
  exact ⟨⟨_, en, rfl⟩, q _ en (Heap.get?_push_of_some _ (Heap.get?_push_size _ B.free)) (by rw [Heap.size_push, z1]) fun b u x => Heap.get?_push_of_some _ (Heap.get?_push_of_some _ x)⟩
end
def IteT (K : PySem.W.Frag) (a : Addr) (k : Int) : It :=
  ⟨fun i H => ∃ (xs : List V) (x : V), SqT K H a xs ∧ xs[i]? = some x, fun i H v H' => ∃ T x, v = .ref T ∧ H T = none ∧ H' = upd H T (.tup [.int (k + (i : Nat)), x]) ∧ ∀ xs, SqT K H a xs → xs[i]? = some x, fun i H => ∃ xs : List V, SqT K H a xs ∧ xs.length ≤ i⟩
theorem turn_enumT {P : Program} {w : World} {K : PySem.W.Frag} {elts : List Expr} {kk : Nat} {tpos : Pos} (a e it : Addr) (k : Int) (nai : a ≠ it) :
    Turn P w K (.Tuple elts kk tpos) (IteT K a k) [e, it] e (fun i h => (∃ old, IsEnum h e it (k + (i : Nat)) old) ∧ h.IsTupleIter it a i ∧ e ≠ it ∧ a ≠ e) where
  mem := by simp
  obj := fun i h st b hb => by
    obtain ⟨⟨old, he⟩, ⟨o, ho, hc, hd⟩, _⟩ := st
    rcases (show b = e ∨ b = it by simpa using hb) with z | z
    · rw [z]
      exact ⟨_, he, fun v q => nomatch q⟩
    · rw [z]
      exact ⟨o, ho, fun v q => by rw [hd] at q; cases q⟩
  keep := fun i h h' st kp => by
    obtain ⟨⟨old, he⟩, hi, hne, hna⟩ := st
    exact ⟨⟨old, kp e (by simp) _ he⟩, hi.at fun o q => kp it (by simp) o q, hne, hna⟩
  item := by
    intro X hP hw hK hc i pins s σ H E I hf st hg
    subst hP hw hK
    obtain ⟨⟨old, he⟩, hit, hne, hna⟩ := st
    obtain ⟨xs, x, hq, hx⟩ := hg
    obtain ⟨its, rv, p, hz⟩ := I.tuple hq
    obtain ⟨u, hu, ru⟩ := rv.get hx
    have el : e < s.heap.objs.size := Heap.lt_size he
    have il : it < s.heap.objs.size := by
      obtain ⟨_, q, _⟩ := hit
      exact Heap.lt_size q
    have isT : s.heap.IsTuple a its.toArray := by
      obtain ⟨o, e1, e2, n, e3⟩ := p
      exact ⟨o, e1, e2, n, e3⟩
    have lti : i < its.length := by
      rcases Nat.lt_or_ge i its.length with z | z
      · exact z
      · rw [List.getElem?_eq_none z] at hu
        cases hu
    have D := Draws.tuple (prog := X.prog) (w := X.w) (A := X.A.in1) (by have := I.ok.hd hc; simpa using this) it a nai its.toArray
    refine wpAny_pyNext_enum_itemC D he ⟨hit, isT⟩ (by simpa using lti) hne (by simp [hne, Ne.symm hna]) fun y h' tk hy ho hst hT hsz hk => ?_
    have ey : y = u := by
      have z : its.toArray[i]? = some y := hy
      rw [List.getElem?_toArray, hu] at z
      exact (Option.some.inj z).symm
    subst ey
    refine ⟨_, rfl, wpAny_letOwnedTupleGo_enum (s := { s with heap := h', toks := tk + 1 }) ho fun h2 he2 sb => ?_⟩
    have T2 : h2.get? s.heap.objs.size = some { cls := .type "tuple", data := .seq #[.int (k + (i : Nat)) tk, y] } := (sb.2 _ (Nat.ne_of_gt el)).trans hT
    have new : ObjOk X.prog X.w (upd H s.heap.objs.size (.tup [.int (k + (i : Nat)), x])) h2 s.heap.objs.size (.tup [.int (k + (i : Nat)), x]) :=
      ⟨by show 2 ≤ sizeLine; decide, [.int (k + (i : Nat)) tk, y], .cons ⟨_, rfl⟩ (.cons ru .nil), ⟨_, T2, rfl, _, rfl⟩⟩
    have I1 : Inv X pins σ (upd H s.heap.objs.size (.tup [.int (k + (i : Nat)), x])) { s with heap := h2, toks := tk + 1 } :=
      I.turnedNew (ch := [e, it]) (fun b ob hb q => (sb.2 b (fun z => hb (by simp [z]))).trans (hk b ob (fun z => hb (by simp [z])) (fun z => hb (by simp [z])) q)) hf (Nat.le_refl _) new
    refine ⟨.ref s.heap.objs.size, _, I1, rfl, ⟨_, x, rfl, I.hok.fresh (Nat.le_refl _), rfl, fun ys hy => by rw [I.tuple_inj hy hq]; exact hx⟩, ⟨⟨y, ?_⟩, hst.1.at fun o q => (sb.2 it (Ne.symm hne)).trans q, hne, hna⟩, fun b hb => ?_⟩
    · rw [show (k + ((i + 1 : Nat) : Int)) = k + (i : Nat) + 1 by omega]
      exact he2
    · have lt : b < s.heap.objs.size := by
        rcases (show b = e ∨ b = it by simpa using hb) with z | z
        · rw [z]; exact el
        · rw [z]; exact il
      rw [upd_ne (Nat.ne_of_lt lt)]
      exact (hf b hb).1
  done := by
    intro X hP hw hK hc i pins s σ H E I hf st hg
    subst hP hw hK
    obtain ⟨⟨old, he⟩, hit, hne, hna⟩ := st
    obtain ⟨xs, hq, hx⟩ := hg
    obtain ⟨its, rv, p, hz⟩ := I.tuple hq
    have isT : s.heap.IsTuple a its.toArray := by
      obtain ⟨o, e1, e2, n, e3⟩ := p
      exact ⟨o, e1, e2, n, e3⟩
    obtain ⟨f0, f1, f2, f3, f4, f5⟩ := hf it (by simp)
    have hl := rv.length
    have hh : X.A.in1.in1.handled = none := by have := I.ok.hd hc; simpa using this
    -- what is behind the end: a draw of a tuple as long as the count
    have stop : ∀ (Q : Value → Shared → Prop) (E : Value → Shared → Prop), (∀ h' e, Heap.ExtBut it s.heap h' → (∃ o, h'.get? e = some o ∧ o.cls = .type "StopIteration") → E (.ref e) { s with heap := h' }) → wpAny (model X.prog X.w) X.A.in1 (Builtin.SmallTypes.nextOf (.ref it)) Q E s :=
      fun Q E hE => wpAny_nextOf_tuple_end (by have := I.ok.hd hc; simpa using this) hit isT (by simp; omega) hE
    have hT : s.TypeIs (.ref e) "enumerate" := ⟨_, he, rfl⟩
    unfold pyNext
    refine wpAny_bind (wpAny_attempt (wpAny_callSpecial?_slot (name := Str.ofString "__next__") hT PySem.F.slot_enumerate_next (wpAny_call_entry PySem.F.slot_enumerate_next hT PySem.F.entry_enumerate_next ?_ (PySem.F.args_enumerate_next_1 _))))
    show wpAny _ _ (field (.ref e) 2 >>= _) _ _ _
    refine wpAny_bind (wpAny_field he rfl (x := .ref it) rfl (wpAny_bind (stop _ _ fun h' x eb hx' => ?_)))
    obtain ⟨o, ho, hc'⟩ := hx'
    refine wpAny_bind (wpAny_isInstance (T := "StopIteration") (b := true) ⟨o, ho, hc'⟩ isSubtype_stop (wpAny_pure ?_))
    exact ⟨rfl, I.turned (t' := s.toks) (fun b o hb q => eb b o hb q) f0 f1 f3 f4 f5⟩
  self := fun A i s Q E st h => by
    obtain ⟨⟨_, he⟩, _⟩ := st
    exact wpAny_pyIter_enum he h
def iEnumT (K : PySem.W.Frag) (ta : TA) : TI := fun σ H R => ta σ H fun vs H1 => ∃ a xs, vs = [.ref a] ∧ SqT K H1 a xs ∧ R (IteT K a 0) H1
theorem pi_enumT {X : Cx} {e : Expr} {ta : TA} {p pos tpos : Pos} {elts : List Expr} {kk : Nat} (hg : Gl X "enumerate") (hm : X.mg "enumerate" = none) (ha : PA X [e] ta) (hs : starEach [e] X.env = [(false, eval e X.env)] := by rfl) :
    PI X (.Tuple elts kk tpos) (.Call (.Name "enumerate" p) [e] [] pos) (iEnumT X.K ta) := by
  refine ⟨fun pins s σ H R I h => ?_⟩
  refine Call_ (ld_blt I hg hm boot_enumerate (PyProof.Rows.callWith_type1 (thn (ha.run pos pins s σ H _ I h) fun us s1 ⟨vs, H1, I1, r1, a, xs, ex, hq, q⟩ => ?_) hs rfl))
  subst ex
  obtain rfl := Vals.ref1 r1
  obtain ⟨its, rv, tp, hz⟩ := I1.tuple hq
  have isT : s1.heap.IsTuple a its.toArray := by
    obtain ⟨o, e1, e2, n, e3⟩ := tp
    exact ⟨o, e1, e2, n, e3⟩
  have al : a < s1.heap.objs.size := by
    obtain ⟨o, e1, _⟩ := isT
    exact Heap.lt_size e1
  refine enum1_begins (begins_tuple a its.toArray) isT fun h' he hit hsz hk => wpAny_pyIter_enum he ?_
  have I2 : Inv X pins σ H1 { s1 with heap := h' } := I1.kept (t' := s1.toks) hk
  refine ⟨s1.heap.objs.size + 1, [s1.heap.objs.size + 1, s1.heap.objs.size], _, _, H1, rfl, I2, turn_enumT a (s1.heap.objs.size + 1) s1.heap.objs.size 0 (Nat.ne_of_lt al), ⟨⟨.none, by simpa using he⟩, ⟨_, hit, rfl, rfl⟩, Nat.succ_ne_self _, Nat.ne_of_lt (Nat.lt_succ_of_lt al)⟩, fun b hb => ?_, q⟩
  have hle : s1.heap.objs.size ≤ b := by
    rcases (show b = s1.heap.objs.size + 1 ∨ b = s1.heap.objs.size by simpa using hb) with z | z
    · rw [z]; exact Nat.le_add_right _ _
    · rw [z]; exact Nat.le_refl _
  exact I1.fpOk hle (I1.hok.fresh hle)
theorem walk_enumT {K : PySem.W.Frag} {a : Addr} {k : Int} {xs : List V} : Walk (IteT K a k) xs.length (fun H => SqT K H a xs) (YPair (fun i => some (.int (k + (i : Nat)))) (fun i => xs[i]?)) := by
  refine ⟨fun i H hi q => ⟨xs, xs[i], q, by simp [hi]⟩, fun H q => ⟨xs, q, Nat.le_refl _⟩, fun i H v H' hi q y => ?_⟩
  obtain ⟨T, x, h1, h2, h3, h4⟩ := y
  exact ⟨T, _, x, h1, h2, h3, rfl, h4 xs q⟩
end Eyes

set_option Elab.async false
set_option linter.all false
set_option maxRecDepth 100000
set_option maxHeartbeats 4000000
/-! sorted(set(texts)). -/
namespace Eyes
open PySem PySem.Spec PyProof.Rows L2
def txtE (e : Int × Value) : Str := match e.2 with | .str z _ => z | _ => Str.empty
def IsTxt (w : World) (e : Int × Value) : Prop := ∃ z tk, e.2 = Value.str z tk ∧ e.1 = hashStr w z
def TxtSet (w : World) (h : Heap) (a : Addr) (L : List Str) : Prop :=
  ∃ ob ee pp tt, h.get? a = some ob ∧ ob.ExactSet ∧ ob.data = .set ee pp tt ∧ (∀ e ∈ ee.toList, IsTxt w e) ∧ ee.toList.map txtE = L ∧ L.Nodup ∧ ee.size < scanBound ∧ tt.fits ee.size = true ∧ Ris tt.place.toList ∧ (w.params.followText "set-order" = true ∨ tt.led = true)
section
variable {P : Program} {w : World}
end
section
variable {P : Program} {w : World} {A : Around} {E : Value → Shared → Prop} {s : Shared} {a : Addr}
theorem TxtSet.at {h h' : Heap} {L : List Str} (T : TxtSet w h a L) (k : ∀ o, h.get? a = some o → h'.get? a = some o) : TxtSet w h' a L := by
  obtain ⟨o, e, p, t, ho, r⟩ := T
  exact ⟨o, e, p, t, k o ho, r⟩
abbrev noSet (w : World) : Obj := { cls := .type "set", dict := none, data := .set #[] 0 (.fresh 0 0 (!w.params.followText "set-order")) }
end
/-! ### set(texts) -/
section
variable {P : Program} {w : World} {A : Around} {R : Result → Shared → Prop} {I : Addr} {fp wr : List Addr} {G : Array GenState → Array GenState → Prop} {n : Nat} {Pv : Nat → Value → Prop} {St : Nat → Shared → Prop}
end
end Eyes

set_option Elab.async false
set_option linter.all false
set_option maxRecDepth 100000
set_option maxHeartbeats 8000000
namespace Eyes
open PySem PySem.Spec PyProof.Rows L2
section
variable {P : Program} {w : World} {A : Around} {E : Value → Shared → Prop} {s : Shared}
theorem new_set1 (v : Value) {Q1 : Value → Shared → Prop} (q : Q1 (.ref s.heap.objs.size) { s with heap := s.heap.push (noSet w) }) :
    codeAny (model P w) A (.call (.builtin "set.__new__") ⟨[.type "set", v], []⟩) (wants Q1 E) s := by
  refine codeAny_of_tree ?_
  show wpAny _ A.in1 (do checkBuiltinCall "set.__new__" ⟨[.type "set", v], []⟩; again (.builtin "set.__new__" ⟨[.type "set", v], []⟩)) _ _ s
  refine wpAny_bind (wpAny_of_eq (PySem.F.newCall_set_1 v) (wpAny_pure ⟨plainId_quiet PySem.F.plain_set_new _, codeAny_builtin PySem.F.entry_set_new ?_⟩))
  rw [Around.under_plainId PySem.F.plain_set_new _]
  unfold Builtin.«set.__new__» Builtin.Frozenset.newClass
  have subS := sub_set_self
  obtain ⟨hp, g, d, tk, os⟩ := s
  dsimp only
  wp_walk
  refine wpAny_askSetting (wpAny_pure ?_)
  dsimp only
  simp only [newObj]
  exact wpAny_bind (wpAny_alloc (wpAny_pure (wpAny_pure q)))
end
def tSortedSet (K : PySem.W.Frag) (te : TE) : TE := fun σ H Q => te σ H fun x H1 => ∃ (a : Addr) (xs : List Str), x = .ref a ∧ SqL K H1 a (xs.map V.str) ∧ xs.length < 64 ∧
  ∀ (ys : List Str) (p : Addr), sortedS ys = true → ys.Nodup → (∀ y, y ∈ ys ↔ y ∈ xs) → H1 p = none → Q (.ref p) (upd H1 p (.lst (ys.map V.str)))
section
variable {X : Cx} {K : PySem.W.Frag} {e : Expr} {te : TE} {p1 p2 q1 q2 : Pos}
end
end Eyes

set_option Elab.async false
set_option linter.all false
set_option maxRecDepth 100000
set_option maxHeartbeats 4000000
namespace Eyes
open PySem PySem.Spec PyProof.Rows L2 Evl TL
def topS (i : Nat) : Stmt := PySem.Challenge.pw_pooledeyes_k11_world_texts_read_back.main.body.getD i (.Pass ⟨0, 0, 0, 0⟩)
abbrev s_wall : Stmt := topS 0
abbrev n_wall : List Str := ["k"]
abbrev p_wall : List Str := ["k"]
abbrev s_InvalidName___init : Stmt := inClass (topS 3) 0
abbrev n_InvalidName___init : List Str := ["self", "value"]
abbrev p_InvalidName___init : List Str := ["self", "value"]
abbrev s_InvalidNumber___init : Stmt := inClass (topS 4) 0
abbrev n_InvalidNumber___init : List Str := ["self", "value"]
abbrev p_InvalidNumber___init : List Str := ["self", "value"]
abbrev s_InvalidText___init : Stmt := inClass (topS 5) 0
abbrev n_InvalidText___init : List Str := ["self", "at"]
abbrev p_InvalidText___init : List Str := ["self", "at"]
theorem sc_InvalidText___init : FnScope n_InvalidText___init p_InvalidText___init (defScope s_InvalidText___init) := ⟨rfl, rfl, rfl, by decide +kernel, rfl, by decide +kernel, by decide +kernel⟩
abbrev s_InvalidCircle___init : Stmt := inClass (topS 6) 0
abbrev n_InvalidCircle___init : List Str := ["self", "at"]
abbrev p_InvalidCircle___init : List Str := ["self", "at"]
abbrev s_InvalidTie___init : Stmt := inClass (topS 7) 0
abbrev n_InvalidTie___init : List Str := ["self", "at"]
abbrev p_InvalidTie___init : List Str := ["self", "at"]
abbrev s_InvalidParting___init : Stmt := inClass (topS 8) 0
abbrev n_InvalidParting___init : List Str := ["self", "value"]
abbrev p_InvalidParting___init : List Str := ["self", "value"]
abbrev s_InvalidCase___init : Stmt := inClass (topS 9) 0
abbrev n_InvalidCase___init : List Str := ["self", "value"]
abbrev p_InvalidCase___init : List Str := ["self", "value"]
abbrev s_TooMany___init : Stmt := inClass (topS 10) 0
abbrev n_TooMany___init : List Str := ["self", "what", "most"]
abbrev p_TooMany___init : List Str := ["self", "what", "most"]
abbrev s_is_name : Stmt := topS 15
abbrev n_is_name : List Str := ["value", "letter"]
abbrev p_is_name : List Str := ["value"]
theorem sc_is_name : FnScope n_is_name p_is_name (defScope s_is_name) := ⟨rfl, rfl, rfl, by decide +kernel, rfl, by decide +kernel, by decide +kernel⟩
abbrev s_is_number : Stmt := topS 16
abbrev n_is_number : List Str := ["value", "least", "most"]
abbrev p_is_number : List Str := ["value", "least", "most"]
theorem sc_is_number : FnScope n_is_number p_is_number (defScope s_is_number) := ⟨rfl, rfl, rfl, by decide +kernel, rfl, by decide +kernel, by decide +kernel⟩
abbrev s_is_parting : Stmt := topS 18
abbrev n_is_parting : List Str := ["value", "at"]
abbrev p_is_parting : List Str := ["value"]
theorem sc_is_parting : FnScope n_is_parting p_is_parting (defScope s_is_parting) := ⟨rfl, rfl, rfl, by decide +kernel, rfl, by decide +kernel, by decide +kernel⟩
abbrev s_is_item : Stmt := topS 19
abbrev n_is_item : List Str := ["row", "at"]
abbrev p_is_item : List Str := ["row", "at"]
theorem sc_is_item : FnScope n_is_item p_is_item (defScope s_is_item) := ⟨rfl, rfl, rfl, by decide +kernel, rfl, by decide +kernel, by decide +kernel⟩
abbrev s_apart : Stmt := topS 20
abbrev n_apart : List Str := ["many"]
abbrev p_apart : List Str := ["many"]
theorem sc_apart : FnScope n_apart p_apart (defScope s_apart) := ⟨rfl, rfl, rfl, by decide +kernel, rfl, by decide +kernel, by decide +kernel⟩
abbrev s_linked : Stmt := topS 21
abbrev n_linked : List Str := ["many", "pairs", "lead", "pair", "ends", "end", "case"]
abbrev p_linked : List Str := ["many", "pairs"]
theorem sc_linked : FnScope n_linked p_linked (defScope s_linked) := ⟨rfl, rfl, rfl, by decide +kernel, rfl, by decide +kernel, by decide +kernel⟩
abbrev s_by_keys : Stmt := topS 22
abbrev n_by_keys : List Str := ["keys", "firsts", "found", "case", "key"]
abbrev p_by_keys : List Str := ["keys"]
abbrev s_met : Stmt := topS 23
abbrev n_met : List Str := ["partings"]
abbrev p_met : List Str := ["partings"]
abbrev s_joined : Stmt := topS 24
abbrev n_joined : List Str := ["partings", "pairs", "parting", "case", "item"]
abbrev p_joined : List Str := ["partings"]
abbrev s_within : Stmt := topS 25
abbrev n_within : List Str := ["first", "second", "at", "item"]
abbrev p_within : List Str := ["first", "second"]
abbrev s_beside : Stmt := topS 26
abbrev n_beside : List Str := ["first", "second", "item"]
abbrev p_beside : List Str := ["first", "second"]
abbrev s_check_names : Stmt := topS 28
abbrev n_check_names : List Str := ["values", "value"]
abbrev p_check_names : List Str := ["values"]
theorem sc_check_names : FnScope n_check_names p_check_names (defScope s_check_names) := ⟨rfl, rfl, rfl, by decide +kernel, rfl, by decide +kernel, by decide +kernel⟩
abbrev s_check_cases : Stmt := topS 29
abbrev n_check_cases : List Str := ["many", "values", "value"]
abbrev p_check_cases : List Str := ["many", "values"]
abbrev s_check_many : Stmt := topS 30
abbrev n_check_many : List Str := ["many"]
abbrev p_check_many : List Str := ["many"]
theorem sc_check_many : FnScope n_check_many p_check_many (defScope s_check_many) := ⟨rfl, rfl, rfl, by decide +kernel, rfl, by decide +kernel, by decide +kernel⟩
abbrev s_check_ties : Stmt := topS 31
abbrev n_check_ties : List Str := ["many", "values", "at", "value"]
abbrev p_check_ties : List Str := ["many", "values"]
theorem sc_check_ties : FnScope n_check_ties p_check_ties (defScope s_check_ties) := ⟨rfl, rfl, rfl, by decide +kernel, rfl, by decide +kernel, by decide +kernel⟩
abbrev s_is_tie : Stmt := topS 32
abbrev n_is_tie : List Str := ["value", "many"]
abbrev p_is_tie : List Str := ["value", "many"]
theorem sc_is_tie : FnScope n_is_tie p_is_tie (defScope s_is_tie) := ⟨rfl, rfl, rfl, by decide +kernel, rfl, by decide +kernel, by decide +kernel⟩
abbrev s_is_parting_to : Stmt := topS 33
abbrev n_is_parting_to : List Str := ["value", "many"]
abbrev p_is_parting_to : List Str := ["value", "many"]
theorem sc_is_parting_to : FnScope n_is_parting_to p_is_parting_to (defScope s_is_parting_to) := ⟨rfl, rfl, rfl, by decide +kernel, rfl, by decide +kernel, by decide +kernel⟩
abbrev s_tied_partings : Stmt := topS 34
abbrev n_tied_partings : List Str := ["many", "ties", "pairs", "name", "one", "other"]
abbrev p_tied_partings : List Str := ["many", "ties"]
theorem sc_tied_partings : FnScope n_tied_partings p_tied_partings (defScope s_tied_partings) := ⟨rfl, rfl, rfl, by decide +kernel, rfl, by decide +kernel, by decide +kernel⟩
abbrev s_counting : Stmt := topS 35
abbrev n_counting : List Str := ["many", "partings", "idle", "name"]
abbrev p_counting : List Str := ["many", "partings"]
theorem sc_counting : FnScope n_counting p_counting (defScope s_counting) := ⟨rfl, rfl, rfl, by decide +kernel, rfl, by decide +kernel, by decide +kernel⟩
abbrev s_read_many : Stmt := topS 36
abbrev n_read_many : List Str := ["line", "many"]
abbrev p_read_many : List Str := ["line"]
theorem sc_read_many : FnScope n_read_many p_read_many (defScope s_read_many) := ⟨rfl, rfl, rfl, by decide +kernel, rfl, by decide +kernel, by decide +kernel⟩
abbrev s_read_parting : Stmt := topS 37
abbrev n_read_parting : List Str := ["line", "many", "cases", "name", "words", "case", "word"]
abbrev p_read_parting : List Str := ["line", "many"]
theorem sc_read_parting : FnScope n_read_parting p_read_parting (defScope s_read_parting) := ⟨rfl, rfl, rfl, by decide +kernel, rfl, by decide +kernel, by decide +kernel⟩
abbrev s_World___init : Stmt := inClass (topS 38) 1
abbrev n_World___init : List Str := ["self", "many", "ties"]
abbrev p_World___init : List Str := ["self", "many", "ties"]
theorem sc_World___init : FnScope n_World___init p_World___init (defScope s_World___init) := ⟨rfl, rfl, rfl, by decide +kernel, rfl, by decide +kernel, by decide +kernel⟩
abbrev s_World_parted : Stmt := inClass (topS 38) 2
abbrev n_World_parted : List Str := ["many", "partings", "value"]
abbrev p_World_parted : List Str := ["many", "partings"]
theorem sc_World_parted : FnScope n_World_parted p_World_parted (defScope s_World_parted) := ⟨rfl, rfl, rfl, by decide +kernel, rfl, by decide +kernel, by decide +kernel⟩
abbrev s_World_read : Stmt := inClass (topS 38) 3
abbrev n_World_read : List Str := ["text", "first", "lines", "many", "partings", "ahead", "at", "line", "name", "parting"]
abbrev p_World_read : List Str := ["text"]
theorem sc_World_read : FnScope n_World_read p_World_read (defScope s_World_read) := ⟨rfl, rfl, rfl, by decide +kernel, rfl, by decide +kernel, by decide +kernel⟩
abbrev s_World_eyes : Stmt := inClass (topS 38) 4
abbrev n_World_eyes : List Str := ["self"]
abbrev p_World_eyes : List Str := ["self"]
theorem sc_World_eyes : FnScope n_World_eyes p_World_eyes (defScope s_World_eyes) := ⟨rfl, rfl, rfl, by decide +kernel, rfl, by decide +kernel, by decide +kernel⟩
abbrev s_World_partings : Stmt := inClass (topS 38) 5
abbrev n_World_partings : List Str := ["self"]
abbrev p_World_partings : List Str := ["self"]
theorem sc_World_partings : FnScope n_World_partings p_World_partings (defScope s_World_partings) := ⟨rfl, rfl, rfl, by decide +kernel, rfl, by decide +kernel, by decide +kernel⟩
abbrev s_World_parting_named : Stmt := inClass (topS 38) 6
abbrev n_World_parting_named : List Str := ["self", "name"]
abbrev p_World_parting_named : List Str := ["self", "name"]
abbrev s_World_parting : Stmt := inClass (topS 38) 7
abbrev n_World_parting : List Str := ["self", "circle", "partings", "part"]
abbrev p_World_parting : List Str := ["self", "circle"]
abbrev s_World_alike : Stmt := inClass (topS 38) 8
abbrev n_World_alike : List Str := ["self", "circle", "one", "other", "parting"]
abbrev p_World_alike : List Str := ["self", "circle", "one", "other"]
abbrev s_World_tells : Stmt := inClass (topS 38) 9
abbrev n_World_tells : List Str := ["self", "t", "s"]
abbrev p_World_tells : List Str := ["self", "t", "s"]
abbrev s_World_tied : Stmt := inClass (topS 38) 10
abbrev n_World_tied : List Str := ["self", "name", "one", "other"]
abbrev p_World_tied : List Str := ["self", "name", "one", "other"]
abbrev s_World_kept_to : Stmt := inClass (topS 38) 11
abbrev n_World_kept_to : List Str := ["self", "cases"]
abbrev p_World_kept_to : List Str := ["self", "cases"]
abbrev s_World_exchanged : Stmt := inClass (topS 38) 12
abbrev n_World_exchanged : List Str := ["self", "first", "second"]
abbrev p_World_exchanged : List Str := ["self", "first", "second"]
abbrev s_World_text : Stmt := inClass (topS 38) 13
abbrev n_World_text : List Str := ["self", "lines", "name", "parting", "items", "item"]
abbrev p_World_text : List Str := ["self"]
theorem sc_World_text : FnScope n_World_text p_World_text (defScope s_World_text) := ⟨rfl, rfl, rfl, by decide +kernel, rfl, by decide +kernel, by decide +kernel⟩
abbrev s_World___add : Stmt := inClass (topS 38) 14
abbrev n_World___add : List Str := ["self", "other", "names", "partings", "name"]
abbrev p_World___add : List Str := ["self", "other"]
abbrev s_World___eq : Stmt := inClass (topS 38) 15
abbrev n_World___eq : List Str := ["self", "other"]
abbrev p_World___eq : List Str := ["self", "other"]
theorem sc_World___eq : FnScope n_World___eq p_World___eq (defScope s_World___eq) := ⟨rfl, rfl, rfl, by decide +kernel, rfl, by decide +kernel, by decide +kernel⟩
abbrev s_World___len : Stmt := inClass (topS 38) 16
abbrev n_World___len : List Str := ["self"]
abbrev p_World___len : List Str := ["self"]
theorem sc_World___len : FnScope n_World___len p_World___len (defScope s_World___len) := ⟨rfl, rfl, rfl, by decide +kernel, rfl, by decide +kernel, by decide +kernel⟩
abbrev s_World___str : Stmt := inClass (topS 38) 17
abbrev n_World___str : List Str := ["self"]
abbrev p_World___str : List Str := ["self"]
theorem sc_World___str : FnScope n_World___str p_World___str (defScope s_World___str) := ⟨rfl, rfl, rfl, by decide +kernel, rfl, by decide +kernel, by decide +kernel⟩
abbrev s_World___repr : Stmt := inClass (topS 38) 18
abbrev n_World___repr : List Str := ["self"]
abbrev p_World___repr : List Str := ["self"]
theorem sc_World___repr : FnScope n_World___repr p_World___repr (defScope s_World___repr) := ⟨rfl, rfl, rfl, by decide +kernel, rfl, by decide +kernel, by decide +kernel⟩
abbrev s_world_with : Stmt := topS 39
abbrev n_world_with : List Str := ["many", "partings", "world"]
abbrev p_world_with : List Str := ["many", "partings"]
theorem sc_world_with : FnScope n_world_with p_world_with (defScope s_world_with) := ⟨rfl, rfl, rfl, by decide +kernel, rfl, by decide +kernel, by decide +kernel⟩
abbrev s_law_bag : Stmt := topS 41
abbrev n_law_bag : List Str := ["_law_script", "_law_mixed", "_law_piece"]
abbrev p_law_bag : List Str := ["_law_script"]
theorem sc_law_bag : FnScope n_law_bag p_law_bag (defScope s_law_bag) := ⟨rfl, rfl, rfl, by decide +kernel, rfl, by decide +kernel, by decide +kernel⟩
abbrev s_law_draw : Stmt := topS 42
abbrev n_law_draw : List Str := ["_law_bag_here", "_law_sides", "_law_piece", "_law_digit", "_law_state"]
abbrev p_law_draw : List Str := ["_law_bag_here", "_law_sides"]
theorem sc_law_draw : FnScope n_law_draw p_law_draw (defScope s_law_draw) := ⟨rfl, rfl, rfl, by decide +kernel, rfl, by decide +kernel, by decide +kernel⟩
abbrev s_law_of : Stmt := topS 43
abbrev n_law_of : List Str := ["_law_bag_here", "_law_things"]
abbrev p_law_of : List Str := ["_law_bag_here", "_law_things"]
theorem sc_law_of : FnScope n_law_of p_law_of (defScope s_law_of) := ⟨rfl, rfl, rfl, by decide +kernel, rfl, by decide +kernel, by decide +kernel⟩
abbrev s_law_same : Stmt := topS 44
abbrev n_law_same : List Str := ["_law_found", "_law_due", "_law_mark", "_law_x", "_law_y"]
abbrev p_law_same : List Str := ["_law_found", "_law_due"]
theorem sc_law_same : FnScope n_law_same p_law_same (defScope s_law_same) := ⟨rfl, rfl, rfl, by decide +kernel, rfl, by decide +kernel, by decide +kernel⟩
abbrev s_law_try : Stmt := topS 45
abbrev n_law_try : List Str := ["_law_ask", "e"]
abbrev p_law_try : List Str := ["_law_ask"]
theorem sc_law_try : FnScope n_law_try p_law_try (defScope s_law_try) := ⟨rfl, rfl, rfl, by decide +kernel, rfl, by decide +kernel, by decide +kernel⟩
abbrev s_law_title : Stmt := topS 46
abbrev n_law_title : List Str := ["_law_bag_here", "_law_taken", "_law_title_here", "_law_k", "_law_sign"]
abbrev p_law_title : List Str := ["_law_bag_here", "_law_taken"]
theorem sc_law_title : FnScope n_law_title p_law_title (defScope s_law_title) := ⟨rfl, rfl, rfl, by decide +kernel, rfl, by decide +kernel, by decide +kernel⟩
abbrev s_law_titles : Stmt := topS 47
abbrev n_law_titles : List Str := ["_law_bag_here", "_law_size", "_law_found", "_law_k", "_law_stem", "_law_spot", "_law_begun"]
abbrev p_law_titles : List Str := ["_law_bag_here", "_law_size"]
theorem sc_law_titles : FnScope n_law_titles p_law_titles (defScope s_law_titles) := ⟨rfl, rfl, rfl, by decide +kernel, rfl, by decide +kernel, by decide +kernel⟩
abbrev s_law_is_title : Stmt := topS 48
abbrev n_law_is_title : List Str := ["_law_thing", "_law_sign"]
abbrev p_law_is_title : List Str := ["_law_thing"]
theorem sc_law_is_title : FnScope n_law_is_title p_law_is_title (defScope s_law_is_title) := ⟨rfl, rfl, rfl, by decide +kernel, rfl, by decide +kernel, by decide +kernel⟩
abbrev s_law_is_case : Stmt := topS 49
abbrev n_law_is_case : List Str := ["_law_thing", "_law_size"]
abbrev p_law_is_case : List Str := ["_law_thing", "_law_size"]
theorem sc_law_is_case : FnScope n_law_is_case p_law_is_case (defScope s_law_is_case) := ⟨rfl, rfl, rfl, by decide +kernel, rfl, by decide +kernel, by decide +kernel⟩
abbrev s_law_is_rows : Stmt := topS 50
abbrev n_law_is_rows : List Str := ["_law_thing", "_law_k"]
abbrev p_law_is_rows : List Str := ["_law_thing"]
theorem sc_law_is_rows : FnScope n_law_is_rows p_law_is_rows (defScope s_law_is_rows) := ⟨rfl, rfl, rfl, by decide +kernel, rfl, by decide +kernel, by decide +kernel⟩
abbrev s_law_alone : Stmt := topS 51
abbrev n_law_alone : List Str := ["_law_size"]
abbrev p_law_alone : List Str := ["_law_size"]
theorem sc_law_alone : FnScope n_law_alone p_law_alone (defScope s_law_alone) := ⟨rfl, rfl, rfl, by decide +kernel, rfl, by decide +kernel, by decide +kernel⟩
abbrev s_law_merged : Stmt := topS 52
abbrev n_law_merged : List Str := ["_law_rows_here", "_law_couples", "_law_found", "_law_x", "_law_y", "_law_low", "_law_high", "_law_z"]
abbrev p_law_merged : List Str := ["_law_rows_here", "_law_couples"]
theorem sc_law_merged : FnScope n_law_merged p_law_merged (defScope s_law_merged) := ⟨rfl, rfl, rfl, by decide +kernel, rfl, by decide +kernel, by decide +kernel⟩
abbrev s_law_rows : Stmt := topS 53
abbrev n_law_rows : List Str := ["_law_bag_here", "_law_size", "_law_found", "_law_k", "_law_roots"]
abbrev p_law_rows : List Str := ["_law_bag_here", "_law_size"]
theorem sc_law_rows : FnScope n_law_rows p_law_rows (defScope s_law_rows) := ⟨rfl, rfl, rfl, by decide +kernel, rfl, by decide +kernel, by decide +kernel⟩
abbrev s_law_views : Stmt := topS 54
abbrev n_law_views : List Str := ["_law_size", "_law_knots_here", "_law_found", "_law_title_here", "_law_x", "_law_y"]
abbrev p_law_views : List Str := ["_law_size", "_law_knots_here"]
theorem sc_law_views : FnScope n_law_views p_law_views (defScope s_law_views) := ⟨rfl, rfl, rfl, by decide +kernel, rfl, by decide +kernel, by decide +kernel⟩
abbrev s_law_seen : Stmt := topS 55
abbrev n_law_seen : List Str := ["_law_size", "_law_views_here", "_law_found", "_law_title_here"]
abbrev p_law_seen : List Str := ["_law_size", "_law_views_here"]
theorem sc_law_seen : FnScope n_law_seen p_law_seen (defScope s_law_seen) := ⟨rfl, rfl, rfl, by decide +kernel, rfl, by decide +kernel, by decide +kernel⟩
abbrev s_law_knots : Stmt := topS 56
abbrev n_law_knots : List Str := ["_law_bag_here", "_law_titles_here", "_law_size", "_law_count", "_law_found", "_law_k"]
abbrev p_law_knots : List Str := ["_law_bag_here", "_law_titles_here", "_law_size", "_law_count"]
theorem sc_law_knots : FnScope n_law_knots p_law_knots (defScope s_law_knots) := ⟨rfl, rfl, rfl, by decide +kernel, rfl, by decide +kernel, by decide +kernel⟩
abbrev s_law_chapter : Stmt := topS 57
abbrev n_law_chapter : List Str := ["_law_size", "_law_views_here", "_law_seen_here", "_law_x", "_law_k"]
abbrev p_law_chapter : List Str := ["_law_size", "_law_views_here"]
theorem sc_law_chapter : FnScope n_law_chapter p_law_chapter (defScope s_law_chapter) := ⟨rfl, rfl, rfl, by decide +kernel, rfl, by decide +kernel, by decide +kernel⟩
abbrev s_law_world_so : Stmt := topS 58
abbrev n_law_world_so : List Str := ["_law_w", "_law_size", "_law_views_here", "_law_seen_here", "_law_words", "_law_told"]
abbrev p_law_world_so : List Str := ["_law_w", "_law_size", "_law_views_here"]
theorem sc_law_world_so : FnScope n_law_world_so p_law_world_so (defScope s_law_world_so) := ⟨rfl, rfl, rfl, by decide +kernel, rfl, by decide +kernel, by decide +kernel⟩
abbrev s_law_many : Stmt := topS 59
abbrev n_law_many : List Str := ["_law_words", "_law_sign"]
abbrev p_law_many : List Str := ["_law_words"]
theorem sc_law_many : FnScope n_law_many p_law_many (defScope s_law_many) := ⟨rfl, rfl, rfl, by decide +kernel, rfl, by decide +kernel, by decide +kernel⟩
abbrev s_law_eye_row : Stmt := topS 60
abbrev n_law_eye_row : List Str := ["_law_words", "_law_size", "_law_pieces", "_law_rows_here", "_law_x"]
abbrev p_law_eye_row : List Str := ["_law_words", "_law_size"]
theorem sc_law_eye_row : FnScope n_law_eye_row p_law_eye_row (defScope s_law_eye_row) := ⟨rfl, rfl, rfl, by decide +kernel, rfl, by decide +kernel, by decide +kernel⟩
abbrev s_law_reader : Stmt := topS 61
abbrev n_law_reader : List Str := ["_law_thing", "_law_lines", "_law_full", "_law_head", "_law_size", "_law_views_here", "_law_last", "_law_k", "_law_told"]
abbrev p_law_reader : List Str := ["_law_thing"]
theorem sc_law_reader : FnScope n_law_reader p_law_reader (defScope s_law_reader) := ⟨rfl, rfl, rfl, by decide +kernel, rfl, by decide +kernel, by decide +kernel⟩
abbrev s_law_text_so : Stmt := topS 62
abbrev n_law_text_so : List Str := ["_law_words", "_law_due", "_law_found", "_law_w"]
abbrev p_law_text_so : List Str := ["_law_words"]
theorem sc_law_text_so : FnScope n_law_text_so p_law_text_so (defScope s_law_text_so) := ⟨rfl, rfl, rfl, by decide +kernel, rfl, by decide +kernel, by decide +kernel⟩
abbrev s_law_line : Stmt := topS 63
abbrev n_law_line : List Str := ["_law_bag_here", "_law_size", "_law_views_here", "_law_x", "_law_rows_here", "_law_words", "_law_spot", "_law_off", "_law_old", "_law_found", "_law_k"]
abbrev p_law_line : List Str := ["_law_bag_here", "_law_size", "_law_views_here"]
theorem sc_law_line : FnScope n_law_line p_law_line (defScope s_law_line) := ⟨rfl, rfl, rfl, by decide +kernel, rfl, by decide +kernel, by decide +kernel⟩
abbrev s_law_bent : Stmt := topS 64
abbrev n_law_bent : List Str := ["_law_bag_here", "_law_words", "_law_size", "_law_views_here", "_law_lines", "_law_spot", "_law_turn", "_law_here", "_law_heads"]
abbrev p_law_bent : List Str := ["_law_bag_here", "_law_words", "_law_size", "_law_views_here"]
theorem sc_law_bent : FnScope n_law_bent p_law_bent (defScope s_law_bent) := ⟨rfl, rfl, rfl, by decide +kernel, rfl, by decide +kernel, by decide +kernel⟩
abbrev s_law : Stmt := topS 65
abbrev n_law : List Str := ["_law_script", "_law_bag_here", "_law_kept", "_law_turn", "_law_size", "_law_titles_here", "_law_views_here", "_law_w", "_law_words", "_law_seen_here", "_law_k", "_law_bent_here", "_law_j", "_law_thing", "_law_x", "_law_rows_here", "_law_wide"]
abbrev p_law : List Str := ["_law_script"]
theorem sc_law : FnScope n_law p_law (defScope s_law) := ⟨rfl, rfl, rfl, by decide +kernel, rfl, by decide +kernel, by decide +kernel⟩
structure Adr where
  no : Nat
  World : Addr
  InvalidName : Addr
  InvalidNumber : Addr
  InvalidText : Addr
  InvalidCircle : Addr
  InvalidTie : Addr
  InvalidParting : Addr
  InvalidCase : Addr
  TooMany : Addr
  cdA : Addr
  tbA : Addr
structure Txt (K : PySem.W.Frag) (mg : Str → Option Value) (A : Adr) : Prop where
  n_isinstance : mg "isinstance" = none
  n_str : mg "str" = none
  n_len : mg "len" = none
  n_all : mg "all" = none
  n_bool : mg "bool" = none
  n_int : mg "int" = none
  n_tuple : mg "tuple" = none
  n_range : mg "range" = none
  n_list : mg "list" = none
  n_max : mg "max" = none
  n_min : mg "min" = none
  n_enumerate : mg "enumerate" = none
  n_zip : mg "zip" = none
  n_sorted : mg "sorted" = none
  n_dict : mg "dict" = none
  n_NotImplemented : mg "NotImplemented" = none
  n_staticmethod : mg "staticmethod" = none
  n_abs : mg "abs" = none
  n_set : mg "set" = none
  n_repr : mg "repr" = none
  n_ValueError : mg "ValueError" = none
  n_LookupError : mg "LookupError" = none
  m_LETTERS : ∃ t, mg "LETTERS" = some (.str "abcdefghijklmnopqrstuvwxyz" t)
  m_MOST_LETTERS : ∃ t, mg "MOST_LETTERS" = some (.int 6 t)
  m_World : mg "World" = some (.ref A.World)
  c_World : Cls K A.World
  y_World : ClsY K A.World
  s_World : PySem.W.selfFirst K A.World = true
  a_World_many : NoAttr K A.World "many"
  a_World_partings : NoAttr K A.World "_partings"
  k_World_LIMIT : ∃ t, ClX.CRead K A.World (.type "type") ∧ ClX.CVal K A.World (.type "type") "LIMIT" (.int 2400) (.int 2400 t)
  q_World_LIMIT : ∃ t, Con K A.World "LIMIT" (.int 2400) (.int 2400 t)
  i_World : InitAtD K A.World "World.__init__" s_World___init p_World___init
  j_World : InitD0 K A.World "World.__init__" s_World___init p_World___init
  u_World_parted : StaAt K A.World "parted" "World.parted" s_World_parted p_World_parted
  u_World_read : StaAt K A.World "read" "World.read" s_World_read p_World_read
  t_World_eyes : MethAt K A.World "eyes" "World.eyes" s_World_eyes p_World_eyes
  t_World_partings : MethAt K A.World "partings" "World.partings" s_World_partings p_World_partings
  t_World_parting_named : MethAt K A.World "parting_named" "World.parting_named" s_World_parting_named p_World_parting_named
  t_World_parting : MethAt K A.World "parting" "World.parting" s_World_parting p_World_parting
  t_World_alike : MethAt K A.World "alike" "World.alike" s_World_alike p_World_alike
  t_World_tells : MethAt K A.World "tells" "World.tells" s_World_tells p_World_tells
  t_World_kept_to : MethAt K A.World "kept_to" "World.kept_to" s_World_kept_to p_World_kept_to
  t_World_text : MethAt K A.World "text" "World.text" s_World_text p_World_text
  t_World___add : MethAt K A.World "__add__" "World.__add__" s_World___add p_World___add
  t_World___eq : MethAt K A.World "__eq__" "World.__eq__" s_World___eq p_World___eq
  t_World___len : MethAt K A.World "__len__" "World.__len__" s_World___len p_World___len
  t_World___str : MethAt K A.World "__str__" "World.__str__" s_World___str p_World___str
  t_World___repr : MethAt K A.World "__repr__" "World.__repr__" s_World___repr p_World___repr
  e_InvalidName : ErrAt K mg "InvalidName" A.InvalidName "InvalidName.__init__" s_InvalidName___init p_InvalidName___init
  a_InvalidName_value : PySem.W.findIn K (.ref A.InvalidName) "value" = some none
  e_InvalidNumber : ErrAt K mg "InvalidNumber" A.InvalidNumber "InvalidNumber.__init__" s_InvalidNumber___init p_InvalidNumber___init
  a_InvalidNumber_value : PySem.W.findIn K (.ref A.InvalidNumber) "value" = some none
  e_InvalidText : ErrAt K mg "InvalidText" A.InvalidText "InvalidText.__init__" s_InvalidText___init p_InvalidText___init
  a_InvalidText_at : PySem.W.findIn K (.ref A.InvalidText) "at" = some none
  e_InvalidCircle : ErrAt K mg "InvalidCircle" A.InvalidCircle "InvalidCircle.__init__" s_InvalidCircle___init p_InvalidCircle___init
  a_InvalidCircle_at : PySem.W.findIn K (.ref A.InvalidCircle) "at" = some none
  e_InvalidTie : ErrAt K mg "InvalidTie" A.InvalidTie "InvalidTie.__init__" s_InvalidTie___init p_InvalidTie___init
  a_InvalidTie_at : PySem.W.findIn K (.ref A.InvalidTie) "at" = some none
  e_InvalidParting : ErrAt K mg "InvalidParting" A.InvalidParting "InvalidParting.__init__" s_InvalidParting___init p_InvalidParting___init
  a_InvalidParting_value : PySem.W.findIn K (.ref A.InvalidParting) "value" = some none
  e_InvalidCase : ErrAt K mg "InvalidCase" A.InvalidCase "InvalidCase.__init__" s_InvalidCase___init p_InvalidCase___init
  a_InvalidCase_value : PySem.W.findIn K (.ref A.InvalidCase) "value" = some none
  e_TooMany : ErrAt K mg "TooMany" A.TooMany "TooMany.__init__" s_TooMany___init p_TooMany___init
  a_TooMany_what : PySem.W.findIn K (.ref A.TooMany) "what" = some none
  a_TooMany_most : PySem.W.findIn K (.ref A.TooMany) "most" = some none
  x_InvalidName_InvalidName : PySem.W.exmOne K (.ref A.InvalidName) (.ref A.InvalidName) = some true
  x_InvalidCircle_InvalidName : PySem.W.exmOne K (.ref A.InvalidCircle) (.ref A.InvalidName) = some false
  x_InvalidCircle_InvalidNumber : PySem.W.exmOne K (.ref A.InvalidCircle) (.ref A.InvalidNumber) = some false
  x_InvalidCircle_InvalidText : PySem.W.exmOne K (.ref A.InvalidCircle) (.ref A.InvalidText) = some false
  x_InvalidCircle_InvalidCircle : PySem.W.exmOne K (.ref A.InvalidCircle) (.ref A.InvalidCircle) = some true
  x_InvalidNumber_InvalidName : PySem.W.exmOne K (.ref A.InvalidNumber) (.ref A.InvalidName) = some false
  x_InvalidNumber_InvalidNumber : PySem.W.exmOne K (.ref A.InvalidNumber) (.ref A.InvalidNumber) = some true
  x_InvalidTie_InvalidName : PySem.W.exmOne K (.ref A.InvalidTie) (.ref A.InvalidName) = some false
  x_InvalidTie_InvalidNumber : PySem.W.exmOne K (.ref A.InvalidTie) (.ref A.InvalidNumber) = some false
  x_InvalidTie_InvalidText : PySem.W.exmOne K (.ref A.InvalidTie) (.ref A.InvalidText) = some false
  x_InvalidTie_InvalidCircle : PySem.W.exmOne K (.ref A.InvalidTie) (.ref A.InvalidCircle) = some false
  x_InvalidTie_InvalidTie : PySem.W.exmOne K (.ref A.InvalidTie) (.ref A.InvalidTie) = some true
  x_InvalidParting_InvalidName : PySem.W.exmOne K (.ref A.InvalidParting) (.ref A.InvalidName) = some false
  x_InvalidParting_InvalidNumber : PySem.W.exmOne K (.ref A.InvalidParting) (.ref A.InvalidNumber) = some false
  x_InvalidParting_InvalidText : PySem.W.exmOne K (.ref A.InvalidParting) (.ref A.InvalidText) = some false
  x_InvalidParting_InvalidCircle : PySem.W.exmOne K (.ref A.InvalidParting) (.ref A.InvalidCircle) = some false
  x_InvalidParting_InvalidTie : PySem.W.exmOne K (.ref A.InvalidParting) (.ref A.InvalidTie) = some false
  x_InvalidParting_InvalidParting : PySem.W.exmOne K (.ref A.InvalidParting) (.ref A.InvalidParting) = some true
  x_TooMany_InvalidName : PySem.W.exmOne K (.ref A.TooMany) (.ref A.InvalidName) = some false
  x_TooMany_InvalidNumber : PySem.W.exmOne K (.ref A.TooMany) (.ref A.InvalidNumber) = some false
  x_TooMany_InvalidText : PySem.W.exmOne K (.ref A.TooMany) (.ref A.InvalidText) = some false
  x_TooMany_InvalidCircle : PySem.W.exmOne K (.ref A.TooMany) (.ref A.InvalidCircle) = some false
  x_TooMany_InvalidTie : PySem.W.exmOne K (.ref A.TooMany) (.ref A.InvalidTie) = some false
  x_TooMany_InvalidParting : PySem.W.exmOne K (.ref A.TooMany) (.ref A.InvalidParting) = some false
  x_TooMany_InvalidCase : PySem.W.exmOne K (.ref A.TooMany) (.ref A.InvalidCase) = some false
  x_TooMany_TooMany : PySem.W.exmOne K (.ref A.TooMany) (.ref A.TooMany) = some true
  x_InvalidText_InvalidName : PySem.W.exmOne K (.ref A.InvalidText) (.ref A.InvalidName) = some false
  x_InvalidText_InvalidNumber : PySem.W.exmOne K (.ref A.InvalidText) (.ref A.InvalidNumber) = some false
  x_InvalidText_InvalidText : PySem.W.exmOne K (.ref A.InvalidText) (.ref A.InvalidText) = some true
  x_InvalidText_TooMany : PySem.W.exmOne K (.ref A.InvalidText) (.ref A.TooMany) = some false
  x_InvalidCase_InvalidName : PySem.W.exmOne K (.ref A.InvalidCase) (.ref A.InvalidName) = some false
  x_InvalidCase_InvalidNumber : PySem.W.exmOne K (.ref A.InvalidCase) (.ref A.InvalidNumber) = some false
  x_InvalidCase_InvalidText : PySem.W.exmOne K (.ref A.InvalidCase) (.ref A.InvalidText) = some false
  x_InvalidCase_InvalidCircle : PySem.W.exmOne K (.ref A.InvalidCase) (.ref A.InvalidCircle) = some false
  x_InvalidCase_InvalidTie : PySem.W.exmOne K (.ref A.InvalidCase) (.ref A.InvalidTie) = some false
  x_InvalidCase_InvalidParting : PySem.W.exmOne K (.ref A.InvalidCase) (.ref A.InvalidParting) = some false
  x_InvalidCase_InvalidCase : PySem.W.exmOne K (.ref A.InvalidCase) (.ref A.InvalidCase) = some true
  f_wall : FnAt K mg "_wall" s_wall p_wall
  f_is_name : FnAt K mg "is_name" s_is_name p_is_name
  f_is_number : FnAt K mg "is_number" s_is_number p_is_number
  f_is_parting : FnAt K mg "is_parting" s_is_parting p_is_parting
  f_is_item : FnAt K mg "is_item" s_is_item p_is_item
  f_apart : FnAt K mg "apart" s_apart p_apart
  f_linked : FnAt K mg "linked" s_linked p_linked
  f_by_keys : FnAt K mg "by_keys" s_by_keys p_by_keys
  f_met : FnAt K mg "met" s_met p_met
  f_joined : FnAt K mg "joined" s_joined p_joined
  f_within : FnAt K mg "within" s_within p_within
  f_beside : FnAt K mg "beside" s_beside p_beside
  f_check_names : FnAt K mg "check_names" s_check_names p_check_names
  f_check_cases : FnAt K mg "check_cases" s_check_cases p_check_cases
  f_check_many : FnAt K mg "check_many" s_check_many p_check_many
  f_check_ties : FnAt K mg "check_ties" s_check_ties p_check_ties
  f_is_tie : FnAt K mg "is_tie" s_is_tie p_is_tie
  f_is_parting_to : FnAt K mg "is_parting_to" s_is_parting_to p_is_parting_to
  f_tied_partings : FnAt K mg "tied_partings" s_tied_partings p_tied_partings
  f_counting : FnAt K mg "counting" s_counting p_counting
  f_read_many : FnAt K mg "read_many" s_read_many p_read_many
  f_read_parting : FnAt K mg "read_parting" s_read_parting p_read_parting
  f_world_with : FnAt K mg "world_with" s_world_with p_world_with
  f_law_bag : FnAt K mg "_law_bag" s_law_bag p_law_bag
  f_law_draw : FnAt K mg "_law_draw" s_law_draw p_law_draw
  f_law_of : FnAt K mg "_law_of" s_law_of p_law_of
  f_law_same : FnAt K mg "_law_same" s_law_same p_law_same
  f_law_try : FnAt K mg "_law_try" s_law_try p_law_try
  f_law_title : FnAt K mg "_law_title" s_law_title p_law_title
  f_law_titles : FnAt K mg "_law_titles" s_law_titles p_law_titles
  f_law_is_title : FnAt K mg "_law_is_title" s_law_is_title p_law_is_title
  f_law_is_case : FnAt K mg "_law_is_case" s_law_is_case p_law_is_case
  f_law_is_rows : FnAt K mg "_law_is_rows" s_law_is_rows p_law_is_rows
  f_law_alone : FnAt K mg "_law_alone" s_law_alone p_law_alone
  f_law_merged : FnAt K mg "_law_merged" s_law_merged p_law_merged
  f_law_rows : FnAt K mg "_law_rows" s_law_rows p_law_rows
  f_law_views : FnAt K mg "_law_views" s_law_views p_law_views
  f_law_seen : FnAt K mg "_law_seen" s_law_seen p_law_seen
  f_law_knots : FnAt K mg "_law_knots" s_law_knots p_law_knots
  f_law_chapter : FnAt K mg "_law_chapter" s_law_chapter p_law_chapter
  f_law_world_so : FnAt K mg "_law_world_so" s_law_world_so p_law_world_so
  f_law_many : FnAt K mg "_law_many" s_law_many p_law_many
  f_law_eye_row : FnAt K mg "_law_eye_row" s_law_eye_row p_law_eye_row
  f_law_reader : FnAt K mg "_law_reader" s_law_reader p_law_reader
  f_law_text_so : FnAtC K mg "_law_text_so" s_law_text_so p_law_text_so A.cdA
  f_law_line : FnAt K mg "_law_line" s_law_line p_law_line
  f_law_bent : FnAt K mg "_law_bent" s_law_bent p_law_bent
  f_law : FnAt K mg "law" s_law p_law
def TT (A : Adr) : List (Addr × Str) := [(A.tbA, (envOfC "_law_text_so" (defScope s_law_text_so) 0 0 .none).qual ++ "<lambda>")]
structure Tbs (K : PySem.W.Frag) (h : Heap) (A : Adr) : Prop where
  tA : h.get? A.tbA = some { cls := .none, data := .fields #[] }
  nA : K.lookup A.tbA = none
  cA : PySem.W.CodeHd h A.cdA A.tbA
end Eyes

set_option Elab.async false
set_option linter.all false
set_option maxRecDepth 100000
set_option maxHeartbeats 4000000
namespace Eyes
open PySem PySem.Spec PyProof.Rows L2 Evl
local macro_rules | `(tactic| walk_at "v") => `(tactic| refine ⟨_, rfl, ?_⟩)
local macro_rules | `(tactic| walk_at "rd") => `(tactic| first
  | refine ⟨_, rfl, ?_⟩
  | refine ⟨_, _, rfl, rfl, .inr ⟨by decide, by decide⟩, ?_⟩
  | refine ⟨_, _, rfl, rfl, .inl ⟨by decide, by decide⟩, ?_⟩
  | refine ⟨_, _, rfl, rfl, (show (0 : Int) < _ by decide), ?_⟩
  | refine ⟨_, _, rfl, rfl, (show (0 : Int) < _ ∧ _ < (1073741824 : Int) by decide), ?_⟩
  | refine ⟨_, _, rfl, rfl, ?_⟩
  | refine .inl ⟨_, rfl, ?_⟩)
/-! ### the bag of drawn numbers -/
structure BagS (b c : Addr) (ns : List Int) (i r m n : Int) (G H : Hp) : Prop where
  nb : G b = none
  nc : G c = none
  ex : Ex G H
  at_ : H b = some (.lst [.ref c, .int i, .int r, .int m, .int n])
  cells : H c = some (.lst (ns.map V.int))
  ne : c ≠ b
  i0 : 0 ≤ i
  r0 : 0 ≤ r
  m0 : 0 ≤ m
  m1 : m < 2147483648
theorem BagS.set {b c : Addr} {ns : List Int} {i r m n i' r' m' n' : Int} {G H : Hp} (B : BagS b c ns i r m n G H) (h1 : 0 ≤ i') (h2 : 0 ≤ r') (h3 : 0 ≤ m') (h4 : m' < 2147483648) :
    BagS b c ns i' r' m' n' G (upd H b (.lst [.ref c, .int i', .int r', .int m', .int n'])) :=
  ⟨B.nb, B.nc, B.ex.mut B.nb, upd_same, (upd_ne B.ne).trans B.cells, B.ne, h1, h2, h3, h4⟩
def At (b : Addr) (G H : Hp) : Prop := ∃ (c : Addr) (ns : List Int) (i r m n : Int), BagS b c ns i r m n G H
theorem At.nb {b : Addr} {G H : Hp} (h : At b G H) : G b = none := by
  obtain ⟨c, ns, i, r, m, n, B⟩ := h
  exact B.nb
theorem At.ex {b : Addr} {G H : Hp} (h : At b G H) : Ex G H := by
  obtain ⟨c, ns, i, r, m, n, B⟩ := h
  exact B.ex
theorem At.mono {b : Addr} {G H H' : Hp} (h : At b G H) (e : Ex H H') : At b G H' := by
  obtain ⟨c, ns, i, r, m, n, B⟩ := h
  exact ⟨c, ns, i, r, m, n, B.nb, B.nc, B.ex.trans e, e _ _ B.at_, e _ _ B.cells, B.ne, B.i0, B.r0, B.m0, B.m1⟩
theorem At.free {b : Addr} {G H : Hp} (h : At b G H) {p : Addr} (hp : H p = none) : p ≠ b := by
  obtain ⟨c, ns, i, r, m, n, B⟩ := h
  intro e
  rw [e, B.at_] at hp
  cases hp
theorem At.new {b : Addr} {G H : Hp} (h : At b G H) {p : Addr} {o : HO} (hp : H p = none) : At b (upd G p o) (upd H p o) := by
  have hf := h.free hp
  have hc : ∀ c ns i r m n, BagS b c ns i r m n G H → p ≠ c := fun c ns i r m n B e => by
    rw [e, B.cells] at hp
    cases hp
  obtain ⟨c, ns, i, r, m, n, B0⟩ := h
  have B : BagS b c ns i r m n G (upd H p o) := ⟨B0.nb, B0.nc, B0.ex.trans (Ex.new hp), Ex.new hp _ _ B0.at_, Ex.new hp _ _ B0.cells, B0.ne, B0.i0, B0.r0, B0.m0, B0.m1⟩
  refine ⟨c, ns, i, r, m, n, (upd_ne hf.symm).trans B.nb, (upd_ne (hc _ _ _ _ _ _ B0).symm).trans B.nc, fun a u e => ?_, B.at_, B.cells, B.ne, B.i0, B.r0, B.m0, B.m1⟩
  by_cases ha : a = p
  · subst ha
    rw [upd_same] at e ⊢
    exact e
  · rw [upd_ne ha] at e
    exact B.ex a u e
theorem At.weak {b : Addr} {G G1 H : Hp} (h : At b G1 H) (e : Ex G G1) : At b G H := by
  obtain ⟨c, ns, i, r, m, n, B⟩ := h
  exact ⟨c, ns, i, r, m, n, fresh_back e B.nb, fresh_back e B.nc, e.trans B.ex, B.at_, B.cells, B.ne, B.i0, B.r0, B.m0, B.m1⟩
theorem At.nh {b : Addr} {G H : Hp} (h : At b G H) {p : Addr} (hp : H p = none) : G p = none := fresh_back h.ex hp
theorem At.put {b : Addr} {G H : Hp} {p : Addr} {o o' : HO} (h : At b (upd G p o) H) : At b (upd G p o') (upd H p o') := by
  obtain ⟨c, ns, i, r, m, n, B⟩ := h
  have hb : b ≠ p := fun e => by
    have := B.nb
    rw [e, upd_same] at this
    cases this
  have hc : c ≠ p := fun e => by
    have := B.nc
    rw [e, upd_same] at this
    cases this
  refine ⟨c, ns, i, r, m, n, ?_, ?_, fun a u e => ?_, (upd_ne hb).trans B.at_, (upd_ne hc).trans B.cells, B.ne, B.i0, B.r0, B.m0, B.m1⟩
  · have := B.nb
    rw [upd_ne hb] at this ⊢
    exact this
  · have := B.nc
    rw [upd_ne hc] at this ⊢
    exact this
  · by_cases ha : a = p
    · subst ha
      rw [upd_same] at e ⊢
      exact e
    · rw [upd_ne ha] at e ⊢
      exact B.ex a u (by rw [upd_ne ha]; exact e)
theorem cut_to (xs : List V) (k : Nat) : cutV xs none (some (k : Int)) = xs.take k := by
  unfold cutV
  rw [HT.sIx_none, HT.sIx_nat, List.drop_zero, Nat.sub_zero]
  rcases Nat.le_total k xs.length with h | h
  · rw [Nat.min_eq_left h]
  · rw [Nat.min_eq_right h, List.take_of_length_le h, List.take_of_length_le (Nat.le_refl _)]
theorem at_of' {α : Type} {xs : List α} {z : Int} {v : α} (e : 0 ≤ z) (h : xs[z.toNat]? = some v) : atI xs z = some v := by
  have e2 : z = (z.toNat : Int) := by omega
  rw [e2]
  exact atI_nat h
def spBag (K : PySem.W.Frag) : Sp := fun vs H Q _ => ∃ (a : Addr) (ns : List Int), vs = [.ref a] ∧ SqL K H a (ns.map V.int) ∧ ∀ b H', H b = none → At b H H' → Q (.ref b) H'
def spDraw : Sp := fun vs H Q _ => ∃ (b : Addr) (z : Int) (G : Hp), vs = [.ref b, .int z] ∧ At b G H ∧ 0 < z ∧ z < 1073741824 ∧ ∀ d H', 0 ≤ d → d < z → At b G H' → Q (.int d) H'
section
variable {P : Program} {w : World} {K : PySem.W.Frag} {mg : Str → Option Value} {base : Heap}
theorem ok_law_bag {AA : Adr} (T : Txt K mg AA) : Pr P w K mg base "_law_bag" s_law_bag p_law_bag 1 (spBag K) := by
  refine pr_mk T.f_law_bag sc_law_bag (fun vs H Q E h => ?_) (fun f cdv A outer s H vs Q E hr h => ?_)
  · obtain ⟨a, ns, rfl, _⟩ := h
    rfl
  · obtain ⟨a, ns, rfl, hS, q⟩ := h
    refine ⟨_, (pss_cons (ps_set (i := 1) sc_law_bag.nd rfl (.inl rfl) pe_int)
      (pss_cons (ps_for PassesOwn.never rfl (pi_list (pe_slice sl_list (pv 0) po_none (po_some pe_int))) (pg_name (i := 2) sc_law_bag.nd rfl (.inl rfl))
      (pss_one (ps_set (i := 1) sc_law_bag.nd rfl (.inl rfl) (pe_op op_mod (pe_callTy call_int1 (by rfl) T.n_int PyProof.Rows.boot_int (pa_cons (pe_op op_add (pe_op op_add (pe_op op_mul (pv 1) pe_int) (pe_op op_mul (pe_op op_mod (pe_callTy call_int1 (by rfl) T.n_int PyProof.Rows.boot_int (pa_cons (pv 2) pa_nil)) pe_int) pe_int)) pe_int) pa_nil)) pe_int))))
      (pss_one (ps_ret (pe_lst (pa_cons (pe_callTy call_list_of (by rfl) T.n_list PyProof.Rows.boot_list (pa_cons (pe_slice sl_list (pv 0) po_none (po_some pe_int)) pa_nil)) (pa_cons pe_int (pa_cons pe_int (pa_cons (pv 1) (pa_cons pe_int pa_nil)))))))))), ?_⟩
    -- mixed = 43001
    -- for piece in script[:63]
    refine ⟨_, rfl, 63, rfl, a, _, rfl, hS, fun p np => ?_⟩
    have hc : cutV (ns.map V.int) none (some 63) = (ns.take 63).map V.int := (cut_to _ 63).trans List.map_take.symm
    rw [hc]
    have e1 : Ex H (upd H p (.lst ((ns.take 63).map V.int))) := Ex.new np
    refine ⟨p, rfl, ⟨_, sq_of upd_same⟩, for_list (xs := (ns.take 63).map V.int) (fun _ σ H' => ∃ (m : Int) (y : Option V), σ = [some (.ref a), some (.int m), y] ∧ 0 ≤ m ∧ m < 2147483587 ∧ Ex (upd H p (.lst ((ns.take 63).map V.int))) H') ⟨43001, none, rfl, by omega, by omega, Ex.refl _⟩ (fun i σ H' _ hp => ?_) (fun i x σ H' hx hp => ?_) (fun σ H' hp => ?_)⟩
    · obtain ⟨m, y, rfl, _, _, e2⟩ := hp
      exact sq_of (e2 _ _ upd_same)
    · obtain ⟨m, y, rfl, h0, h1, e2⟩ := hp
      rw [List.getElem?_map] at hx
      obtain ⟨k, hk, rfl⟩ := Option.map_eq_some_iff.mp hx
      -- the sum
      repeat walk_at "rd"
      exact ⟨_, _, rfl, Int.emod_nonneg _ (by decide), Int.emod_lt_of_pos _ (by decide), e2⟩
    · obtain ⟨m, y, rfl, h0, h1, e2⟩ := hp
      -- return [list(script[:63]), 0, 0, mixed, 0]
      have hS1 : SqL K H' a (ns.map V.int) := ex_l (e1.trans e2) hS
      refine ⟨_, rfl, 63, rfl, a, _, rfl, hS1, fun p2 np2 => ?_⟩
      rw [hc]
      refine ⟨p2, _, rfl, .inl (sq_of upd_same), fun p3 np3 => ?_⟩
      refine ⟨_, rfl, by show 5 ≤ sizeLine; decide, fun b nb => ?_⟩
      have ex : Ex H _ := (((e1.trans e2).trans (Ex.new np2)).trans (Ex.new np3)).trans (Ex.new (o := HO.lst [.ref p3, .int 0, .int 0, .int m, .int 0]) nb)
      refine q b _ (fresh_back (((e1.trans e2).trans (Ex.new np2)).trans (Ex.new np3)) nb) ⟨p3, ns.take 63, 0, 0, m, 0, fresh_back (((e1.trans e2).trans (Ex.new np2)).trans (Ex.new np3)) nb, fresh_back ((e1.trans e2).trans (Ex.new np2)) np3, ex, upd_same, ?_, ?_, by omega, by omega, by omega, by omega⟩
      · have hb : p3 ≠ b := ne_of_none upd_same nb
        rw [upd_ne hb, upd_same]
      · exact ne_of_none upd_same nb
theorem ok_law_draw {AA : Adr} (T : Txt K mg AA) : Pr P w K mg base "_law_draw" s_law_draw p_law_draw 1 spDraw := by
  refine pr_mk T.f_law_draw sc_law_draw (fun vs H Q E h => ?_) (fun f cdv A outer s H vs Q E hr h => ?_)
  · obtain ⟨b, z, G, rfl, _⟩ := h
    rfl
  · obtain ⟨b, z, G, rfl, ⟨c, ns, i, r, m, n, B⟩, hz0, hz1, q⟩ := h
    refine ⟨_, (pss_cons (ps_asg (pe_op op_add (pe_ix (ix_listK (K := K) rfl) (pv 0) pe_int (fun _ _ => rfl)) pe_int) (pg_sub (pv 0) pe_int set_list))
      (Evl.pss_cut (ps_if (PW.pt (pw_and (pt_cmpR op_eq (pe_ix (ix_listK (K := K) rfl) (pv 0) pe_int (fun _ _ => rfl)) pe_int (nomark _)) (pw_and1 (pt_cmpR op_lt (pe_ix (ix_listK (K := K) rfl) (pv 0) pe_int (fun _ _ => rfl)) (pe_callB (call_len_seqK (K := K) rfl) (by rfl) T.n_len PySem.boot_len (pa_cons (pe_ix (ix_listK (K := K) rfl) (pv 0) pe_int (fun _ _ => rfl)) pa_nil)) (nomark _)))))
      (pss_cons (ps_set (i := 2) sc_law_draw.nd rfl (.inl rfl) (pe_callB call_abs (by rfl) T.n_abs PyProof.Rows.boot_abs (pa_cons (pe_callTy call_int1 (by rfl) T.n_int PyProof.Rows.boot_int (pa_cons (pe_ix (ix_listK (K := K) rfl) (pe_ix (ix_listK (K := K) rfl) (pv 0) pe_int (fun _ _ => rfl)) (pe_ix (ix_listK (K := K) rfl) (pv 0) pe_int (fun _ _ => rfl)) (fun _ _ => rfl)) pa_nil)) pa_nil)))
      (pss_cons (ps_asg (pe_op op_add (pe_ix (ix_listK (K := K) rfl) (pv 0) pe_int (fun _ _ => rfl)) pe_int) (pg_sub (pv 0) pe_int set_list))
      (pss_one (ps_if (pt_cmpR op_ge (pv 2) (pe_op op_pow pe_int pe_int) (nomark _))
      (pss_one (ps_asg (pv 2) (pg_sub (pv 0) pe_int set_list)))
      (pss_one (ps_asg (pe_op op_mod (pe_callTy call_int1 (by rfl) T.n_int PyProof.Rows.boot_int (pa_cons (pe_op op_add (pe_op op_add (pe_op op_mul (pe_ix (ix_listK (K := K) rfl) (pv 0) pe_int (fun _ _ => rfl)) pe_int) (pe_op op_mul (pe_op op_mod (pv 2) pe_int) pe_int)) pe_int) pa_nil)) pe_int) (pg_sub (pv 0) pe_int set_list)))))))
      pss_nil)
      (pss_cons (ps_if (pt_cmpR op_gt (pe_ix (ix_listK (K := K) rfl) (pv 0) pe_int (fun _ _ => rfl)) pe_int (nomark _))
      (pss_cons (ps_set (i := 3) sc_law_draw.nd rfl (.inl rfl) (pe_op op_mod (pe_callTy call_int1 (by rfl) T.n_int PyProof.Rows.boot_int (pa_cons (pe_ix (ix_listK (K := K) rfl) (pv 0) pe_int (fun _ _ => rfl)) pa_nil)) (pv 1)))
      (pss_cons (ps_asg (pe_op op_fdiv (pe_ix (ix_listK (K := K) rfl) (pv 0) pe_int (fun _ _ => rfl)) (pv 1)) (pg_sub (pv 0) pe_int set_list))
      (pss_one (ps_ret (pv 3)))))
      pss_nil)
      (pss_cons (ps_set (i := 4) sc_law_draw.nd rfl (.inl rfl) (pe_callTy call_int1 (by rfl) T.n_int PyProof.Rows.boot_int (pa_cons (pe_ix (ix_listK (K := K) rfl) (pv 0) pe_int (fun _ _ => rfl)) pa_nil)))
      (pss_cons (ps_asg (pe_op op_mod (pe_callTy call_int1 (by rfl) T.n_int PyProof.Rows.boot_int (pa_cons (pe_op op_add (pe_op op_add (pe_op op_add (pe_op op_mul (pe_op op_mul (pv 4) (pv 4)) pe_int) (pe_op op_mul (pv 4) pe_int)) (pe_op op_mul (pe_ix (ix_listK (K := K) rfl) (pv 0) pe_int (fun _ _ => rfl)) pe_int)) pe_int) pa_nil)) pe_int) (pg_sub (pv 0) pe_int set_list))
      (pss_one (ps_ret (pe_op op_mod (pe_callTy call_int1 (by rfl) T.n_int PyProof.Rows.boot_int (pa_cons (pe_op op_add (pe_op op_fdiv (pe_ix (ix_listK (K := K) rfl) (pv 0) pe_int (fun _ _ => rfl)) pe_int) (pe_op op_mul (pe_op op_mod (pe_callTy call_int1 (by rfl) T.n_int PyProof.Rows.boot_int (pa_cons (pe_ix (ix_listK (K := K) rfl) (pv 0) pe_int (fun _ _ => rfl)) pa_nil)) pe_int) pe_int)) pa_nil)) (pv 1))))))))), ?_⟩
    -- bag[4] = bag[4] + 1
    refine ⟨_, rfl, b, _, 4, _, rfl, rfl, sq_of B.at_, rfl, n, 1, rfl, rfl, _, rfl, b, _, 4, 4, rfl, rfl, B.at_, rfl, ?_⟩
    have B1 := B.set (n' := n + 1) B.i0 B.r0 B.m0 B.m1
    generalize hH1 : upd H b _ = H1
    rw [show ([V.ref c, .int i, .int r, .int m, .int n].set 4 (.int (n + 1))) = [V.ref c, .int i, .int r, .int m, .int (n + 1)] from rfl] at hH1
    rw [hH1] at B1
    clear hH1 B
    generalize n + 1 = n at B1
    -- the first if: Mid
    refine ⟨fun σ H' => ∃ (y2 y3 y4 : Option V), σ = [some (.ref b), some (.int z), y2, y3, y4] ∧ At b G H', ?_, fun σ H' hM => ?_⟩
    · refine ⟨_, rfl, b, _, 2, _, rfl, rfl, sq_of B1.at_, rfl, rfl, _, rfl, ite2 (fun hr0 => ?_) (fun hr0 => ?_)⟩
      · refine ⟨_, rfl, b, _, 1, _, rfl, rfl, sq_of B1.at_, rfl, _, rfl, b, _, 0, _, rfl, rfl, sq_of B1.at_, rfl, c, _, rfl, .inl (sq_of B1.cells), i, _, rfl, rfl, _, rfl, ite2 (fun hi => ?_) (fun hi => ?_)⟩
        · have hi : i < ((ns.map V.int).length : Int) := of_decide_eq_true hi
          have hi2 : i.toNat < ns.length := by
            rw [List.length_map] at hi
            have := B1.i0
            omega
          have g : (ns.map V.int)[i.toNat]? = some (.int ns[i.toNat]) := by
            rw [List.getElem?_map, List.getElem?_eq_getElem hi2]
            rfl
          have g2 : atI (ns.map V.int) i = some (.int ns[i.toNat]) := at_of (j := i.toNat) (by have := B1.i0; omega) g
          generalize ns[i.toNat] = x at g2
          -- piece = abs(int(bag[0][bag[1]]))
          refine ⟨_, rfl, b, _, 0, _, rfl, rfl, sq_of B1.at_, rfl, _, rfl, b, _, 1, _, rfl, rfl, sq_of B1.at_, rfl, c, _, i, _, rfl, rfl, sq_of B1.cells, g2, .inl ⟨x, rfl, x, rfl, ?_⟩⟩
          generalize hy : (if x < 0 then -x else x) = y
          have hy0 : 0 ≤ y := by
            rw [← hy]
            split <;> omega
          -- bag[1] = bag[1] + 1
          refine ⟨_, rfl, b, _, 1, _, rfl, rfl, sq_of B1.at_, rfl, i, 1, rfl, rfl, _, rfl, b, _, 1, 1, rfl, rfl, B1.at_, rfl, ?_⟩
          have B2 := B1.set (i' := i + 1) (n' := n) (by have := B1.i0; omega) B1.r0 B1.m0 B1.m1
          -- if piece >= 10 ** 18
          refine ⟨_, rfl, 10, 18, rfl, rfl, ⟨by decide, by decide, by decide⟩, _, _, rfl, rfl, _, rfl, ite2 (fun hp => ?_) (fun hp => ?_)⟩
          · refine ⟨_, rfl, _, rfl, b, _, 2, 2, rfl, rfl, B2.at_, rfl, _, _, _, rfl, _, _, _, _, _, _, B2.set (r' := y) (n' := n) B2.i0 hy0 B2.m0 B2.m1⟩
          · refine ⟨_, rfl, b, _, 3, _, rfl, rfl, sq_of B2.at_, rfl, m, 40014, rfl, rfl, .inr ⟨by decide, by decide⟩, _, rfl, ?_⟩
            repeat walk_at "rd"
            refine ⟨b, _, 3, 3, rfl, rfl, B2.at_, rfl, _, _, _, rfl, _, _, _, _, _, _, B2.set (n' := n) (m' := (m * 40014 + y % 999979 * 613 + 29) % 2147483579) B2.i0 B2.r0 (Int.emod_nonneg _ (by decide)) (Int.lt_trans (Int.emod_lt_of_pos _ (by decide)) (by decide))⟩
        · exact ⟨_, _, _, rfl, c, ns, i, r, m, n, B1⟩
      · exact ⟨_, _, _, rfl, c, ns, i, r, m, n, B1⟩
    · obtain ⟨y2, y3, y4, rfl, c, ns, i, r, m, n, B⟩ := hM
      -- if bag[2] > 0
      refine ⟨_, rfl, b, _, 2, _, rfl, rfl, sq_of B.at_, rfl, r, 0, rfl, rfl, _, rfl, ite2 (fun hr1 => ?_) (fun hr1 => ?_)⟩
      · have hr1 : 0 < r := of_decide_eq_true hr1
        refine ⟨_, rfl, b, _, 2, _, rfl, rfl, sq_of B.at_, rfl, .inl ⟨r, rfl, _, rfl, r, z, rfl, rfl, hz0, ?_⟩⟩
        refine ⟨_, rfl, b, _, 2, _, rfl, rfl, sq_of B.at_, rfl, _, rfl, r, z, rfl, rfl, ⟨hz0, hz1⟩, _, rfl, b, _, 2, 2, rfl, rfl, B.at_, rfl, _, rfl, ?_⟩
        exact q _ _ (Int.emod_nonneg _ (by omega)) (Int.emod_lt_of_pos _ hz0) ⟨_, _, _, _, _, _, B.set (r' := r / z) (n' := n) B.i0 (Int.ediv_nonneg B.r0 (by omega)) B.m0 B.m1⟩
      · refine ⟨_, rfl, b, _, 3, _, rfl, rfl, sq_of B.at_, rfl, .inl ⟨m, rfl, ?_⟩⟩
        have hm : -(2 ^ 64) < m ∧ m < 2 ^ 64 := ⟨Int.lt_of_lt_of_le (by decide) B.m0, Int.lt_trans B.m1 (by decide)⟩
        refine ⟨_, rfl, _, rfl, m, m, rfl, rfl, .inl hm, _, _, rfl, rfl, .inr ⟨by decide, by decide⟩, _, rfl, _, _, rfl, rfl, .inr ⟨by decide, by decide⟩, _, _, rfl, rfl, _, rfl, b, _, 4, _, rfl, rfl, sq_of B.at_, rfl, _, _, rfl, rfl, .inr ⟨by decide, by decide⟩, _, _, rfl, rfl, _, _, rfl, rfl, .inl ⟨_, rfl, _, _, rfl, rfl, (show (0 : Int) < _ by decide), _, rfl, b, _, 3, 3, rfl, rfl, B.at_, rfl, ?_⟩⟩
        have B2 := B.set (n' := n) (m' := (m * m * 31 + m * 52774 + n * 130363 + 70001) % 2147483629) B.i0 B.r0 (Int.emod_nonneg _ (by decide)) (Int.lt_trans (Int.emod_lt_of_pos _ (by decide)) (by decide))
        refine ⟨_, rfl, b, _, 3, _, rfl, rfl, sq_of B2.at_, rfl, _, 71, rfl, rfl, ⟨by decide, by decide⟩, _, rfl, b, _, 3, _, rfl, rfl, sq_of B2.at_, rfl, .inl ⟨_, rfl, _, 9001, rfl, rfl, (show (0 : Int) < _ by decide), _, _, rfl, rfl, .inr ⟨by decide, by decide⟩, _, _, rfl, rfl, .inl ⟨_, rfl, _, rfl, _, _, rfl, rfl, hz0, ?_⟩⟩⟩
        exact q _ _ (Int.emod_nonneg _ (by omega)) (Int.emod_lt_of_pos _ hz0) ⟨_, _, _, _, _, _, B2⟩
def SeqV (K : PySem.W.Frag) (H : Hp) (x : V) (items : List V) : Prop :=
  (∃ p, x = .ref p ∧ SqL K H p items) ∨ (∃ p, x = .ref p ∧ SqT K H p items) ∨ ∃ z : Str, x = .str z ∧ z.length ≤ sizeLine ∧ items = z.cps.toList.map fun c => V.str ⟨#[c]⟩
theorem SeqV.mono {H H' : Hp} {x : V} {items : List V} (h : SeqV K H x items) (e : Ex H H') : SeqV K H' x items := by
  rcases h with ⟨p, hx, h⟩ | ⟨p, hx, h⟩ | h
  · exact .inl ⟨p, hx, ex_l e h⟩
  · exact .inr (.inl ⟨p, hx, ex_t e h⟩)
  · exact .inr (.inr h)
theorem SeqV.len {H : Hp} {x : V} {items : List V} (h : SeqV K H x items) : LenV K x H items.length := by
  rcases h with ⟨p, rfl, h⟩ | ⟨p, rfl, h⟩ | ⟨z, rfl, hz, e⟩
  · exact .inl ⟨_, h, rfl⟩
  · exact .inr ⟨_, h, rfl⟩
  · refine ⟨hz, ?_⟩
    rw [e, List.length_map, Array.length_toList]
    rfl
theorem SeqV.item {H : Hp} {x : V} {items : List V} {d : Int} {v : V} {Q : VK} (h : SeqV K H x items) (hd : 0 ≤ d) (hv : items[d.toNat]? = some v) (q : Q v H) : rIx K x (.int d) H Q := by
  rcases h with ⟨p, rfl, h⟩ | ⟨p, rfl, h⟩ | ⟨z, rfl, hz, e⟩
  · exact .inl ⟨p, _, d, v, rfl, rfl, h, at_of (j := d.toNat) (by omega) hv, q⟩
  · exact .inr (.inl ⟨p, _, d, v, rfl, rfl, h, at_of (j := d.toNat) (by omega) hv, q⟩)
  · subst e
    rw [List.getElem?_map] at hv
    obtain ⟨c, hc, rfl⟩ := Option.map_eq_some_iff.mp hv
    exact .inr (.inr ⟨z, d, c, rfl, rfl, hz, at_of' (by omega) hc, q⟩)
def spOf (K : PySem.W.Frag) : Sp := fun vs H Q _ => ∃ (b : Addr) (x : V) (G : Hp) (items : List V), vs = [.ref b, x] ∧ At b G H ∧ SeqV K G x items ∧ 0 < items.length ∧ items.length < 1073741824 ∧ ∀ v H', v ∈ items → At b G H' → Q v H'
theorem ok_law_of {AA : Adr} (T : Txt K mg AA) : Pr P w K mg base "_law_of" s_law_of p_law_of 2 (spOf K) := by
  refine pr_mk T.f_law_of sc_law_of (fun vs H Q E h => ?_) (fun f cdv A outer s H vs Q E hr h => ?_)
  · obtain ⟨b, x, G, items, rfl, _⟩ := h
    rfl
  · obtain ⟨b, x, G, items, rfl, hA, hx, h0, h1, q⟩ := h
    refine ⟨_, (pss_one (ps_ret (pe_ix (ix_seqK (K := K) rfl) (pv 1) (pcall (ok_law_draw T) hr (pa_cons (pv 0) (pa_cons (pe_callB call_len (by rfl) T.n_len PySem.boot_len (pa_cons (pv 1) pa_nil)) pa_nil))) (fun _ _ => rfl)))), ?_⟩
    refine ⟨_, rfl, _, rfl, _, rfl, x, _, rfl, (hx.mono hA.ex).len, b, _, G, rfl, hA, by omega, by omega, fun d H' d0 d1 hA' => ?_⟩
    have hd : d.toNat < items.length := by omega
    exact (hx.mono hA'.ex).item d0 (List.getElem?_eq_getElem hd) (q _ _ (List.getElem_mem hd) hA')
end
end Eyes

set_option Elab.async false
set_option linter.all false
set_option maxRecDepth 100000
set_option maxHeartbeats 4000000
namespace Eyes
open PySem PySem.Spec PyProof.Rows L2 Evl
/-! ### data in the heap -/
mutual
inductive Rep (H : Hp) : V → PyData → Prop
  | non : Rep H .non .none
  | bl (b : Bool) : Rep H (.bl b) (.bool b)
  | int (i : Int) : Rep H (.int i) (.int i)
  | str (x : Str) : Rep H (.str x) (.str x)
  | lst {a : Addr} {xs : List V} {ds : List PyData} : H a = some (.lst xs) → Reps H xs ds → Rep H (.ref a) (.list ds)
  | tup {a : Addr} {xs : List V} {ds : List PyData} : H a = some (.tup xs) → Reps H xs ds → Rep H (.ref a) (.tuple ds)
inductive Reps (H : Hp) : List V → List PyData → Prop
  | nil : Reps H [] []
  | cons {v : V} {vs : List V} {d : PyData} {ds : List PyData} : Rep H v d → Reps H vs ds → Reps H (v :: vs) (d :: ds)
end
mutual
theorem Rep.mono {H H' : Hp} (e : Ex H H') : ∀ {v : V} {d : PyData}, Rep H v d → Rep H' v d
  | _, _, .non => .non
  | _, _, .bl b => .bl b
  | _, _, .int i => .int i
  | _, _, .str x => .str x
  | _, _, .lst h r => .lst (e _ _ h) (Reps.mono e r)
  | _, _, .tup h r => .tup (e _ _ h) (Reps.mono e r)
theorem Reps.mono {H H' : Hp} (e : Ex H H') : ∀ {v : List V} {d : List PyData}, Reps H v d → Reps H' v d
  | _, _, .nil => .nil
  | _, _, .cons h r => .cons (Rep.mono e h) (Reps.mono e r)
end
theorem Reps.length {H : Hp} : ∀ {xs : List V} {ds : List PyData}, Reps H xs ds → xs.length = ds.length
  | _, _, .nil => rfl
  | _, _, .cons _ r => congrArg Nat.succ (Reps.length r)
theorem Reps.get {H : Hp} : ∀ {xs : List V} {ds : List PyData} {i : Nat} {x : V}, Reps H xs ds → xs[i]? = some x → ∃ d, ds[i]? = some d ∧ Rep H x d
  | _, _, _, _, .nil, e => by simp at e
  | _, _, 0, _, .cons h _, e => by
    simp at e
    subst e
    exact ⟨_, rfl, h⟩
  | _, _, i + 1, x, .cons _ r, e => by
    obtain ⟨d, h1, h2⟩ := Reps.get (i := i) (x := x) r (by simpa using e)
    exact ⟨d, by simpa using h1, h2⟩
theorem depth_get : ∀ {ds : List PyData} {i : Nat} {d : PyData}, ds[i]? = some d → d.depth ≤ PyData.depthAll ds
  | [], _, _, e => by simp at e
  | x :: xs, 0, _, e => by
    simp at e
    subst e
    exact Nat.le_max_left _ _
  | x :: xs, i + 1, d, e => Nat.le_trans (depth_get (ds := xs) (i := i) (by simpa using e)) (Nat.le_max_right _ _)
mutual
def wid : PyData → Nat
  | .list xs => max xs.length (widAll xs)
  | .tuple xs => max xs.length (widAll xs)
  | .dict _ => 0
  | .none => 0
  | .bool _ => 0
  | .int _ => 0
  | .str _ => 0
def widAll : List PyData → Nat
  | [] => 0
  | x :: xs => max (wid x) (widAll xs)
end
theorem wid_get : ∀ {ds : List PyData} {i : Nat} {d : PyData}, ds[i]? = some d → wid d ≤ widAll ds
  | [], _, _, e => by simp at e
  | x :: xs, 0, _, e => by
    simp at e
    subst e
    exact Nat.le_max_left _ _
  | x :: xs, i + 1, d, e => Nat.le_trans (wid_get (ds := xs) (i := i) (by simpa using e)) (Nat.le_max_right _ _)
def tyD : PyData → String
  | .none => "NoneType" | .bool _ => "bool" | .int _ => "int" | .str _ => "str" | .list _ => "list" | .tuple _ => "tuple" | .dict _ => "dict"
theorem Rep.ty {K : PySem.W.Frag} {H : Hp} {v : V} {d : PyData} (h : Rep H v d) : TyX K H v (.type (tyD d)) := by
  cases h with
  | non => exact .base .non
  | bl b => exact .base (.bl b)
  | int b => exact .base (.int b)
  | str b => exact .base (.str b)
  | lst h _ => exact .base (.lst h)
  | tup h _ => exact .base (.tup h)
theorem kit_t (K : PySem.W.Frag) {a b : String} (h : (kitB a b).isSome = true) : ∃ r, PySem.W.kitOne K (.type a) (.type b) = some r := by
  obtain ⟨r, e⟩ := Option.isSome_iff_exists.mp h
  exact ⟨r, kit_ty e⟩
theorem kit_list (K : PySem.W.Frag) : ∀ d : PyData, ∃ b, PySem.W.kitOne K (.type (tyD d)) (.type "list") = some b
  | .none => kit_t K (a := "NoneType") (by decide +kernel) | .bool _ => kit_t K (a := "bool") (by decide +kernel) | .int _ => kit_t K (a := "int") (by decide +kernel) | .str _ => kit_t K (a := "str") (by decide +kernel)
  | .list _ => kit_t K (a := "list") (by decide +kernel) | .tuple _ => kit_t K (a := "tuple") (by decide +kernel) | .dict _ => kit_t K (a := "dict") (by decide +kernel)
theorem kit_tuple (K : PySem.W.Frag) : ∀ d : PyData, ∃ b, PySem.W.kitOne K (.type (tyD d)) (.type "tuple") = some b
  | .none => kit_t K (a := "NoneType") (by decide +kernel) | .bool _ => kit_t K (a := "bool") (by decide +kernel) | .int _ => kit_t K (a := "int") (by decide +kernel) | .str _ => kit_t K (a := "str") (by decide +kernel)
  | .list _ => kit_t K (a := "list") (by decide +kernel) | .tuple _ => kit_t K (a := "tuple") (by decide +kernel) | .dict _ => kit_t K (a := "dict") (by decide +kernel)
theorem kit_bool (K : PySem.W.Frag) : ∀ d : PyData, ∃ b, PySem.W.kitOne K (.type (tyD d)) (.type "bool") = some b
  | .none => kit_t K (a := "NoneType") (by decide +kernel) | .bool _ => kit_t K (a := "bool") (by decide +kernel) | .int _ => kit_t K (a := "int") (by decide +kernel) | .str _ => kit_t K (a := "str") (by decide +kernel)
  | .list _ => kit_t K (a := "list") (by decide +kernel) | .tuple _ => kit_t K (a := "tuple") (by decide +kernel) | .dict _ => kit_t K (a := "dict") (by decide +kernel)
theorem kit_int (K : PySem.W.Frag) : ∀ d : PyData, ∃ b, PySem.W.kitOne K (.type (tyD d)) (.type "int") = some b
  | .none => kit_t K (a := "NoneType") (by decide +kernel) | .bool _ => kit_t K (a := "bool") (by decide +kernel) | .int _ => kit_t K (a := "int") (by decide +kernel) | .str _ => kit_t K (a := "str") (by decide +kernel)
  | .list _ => kit_t K (a := "list") (by decide +kernel) | .tuple _ => kit_t K (a := "tuple") (by decide +kernel) | .dict _ => kit_t K (a := "dict") (by decide +kernel)
theorem kit_str (K : PySem.W.Frag) : ∀ d : PyData, ∃ b, PySem.W.kitOne K (.type (tyD d)) (.type "str") = some b
  | .none => kit_t K (a := "NoneType") (by decide +kernel) | .bool _ => kit_t K (a := "bool") (by decide +kernel) | .int _ => kit_t K (a := "int") (by decide +kernel) | .str _ => kit_t K (a := "str") (by decide +kernel)
  | .list _ => kit_t K (a := "list") (by decide +kernel) | .tuple _ => kit_t K (a := "tuple") (by decide +kernel) | .dict _ => kit_t K (a := "dict") (by decide +kernel)
theorem kit_scal (K : PySem.W.Frag) {a : String} (h1 : kitB a "list" = some false) (h2 : kitB a "tuple" = some false) : PySem.W.kitAny K (.type a) [.type "list", .type "tuple"] = some false :=
  kitAny_cons (b := false) (kit_ty h1) (fun _ => kitAny_cons (b := false) (kit_ty h2) (fun _ => kitAny_nil) (fun z => nomatch z)) (fun z => nomatch z)
def seqD : PyData → Bool
  | .list _ => true | .tuple _ => true | _ => false
theorem kit_seq (K : PySem.W.Frag) : ∀ d : PyData, PySem.W.kitAny K (.type (tyD d)) [.type "list", .type "tuple"] = some (seqD d)
  | .none => kit_scal K (a := "NoneType") (by decide +kernel) (by decide +kernel) | .bool _ => kit_scal K (a := "bool") (by decide +kernel) (by decide +kernel)
  | .int _ => kit_scal K (a := "int") (by decide +kernel) (by decide +kernel) | .str _ => kit_scal K (a := "str") (by decide +kernel) (by decide +kernel) | .dict _ => kit_scal K (a := "dict") (by decide +kernel) (by decide +kernel)
  | .list _ => kitAny_cons (b := true) (kit_ty (a := "list") (by decide +kernel)) (fun z => nomatch z) (fun _ => rfl)
  | .tuple _ => kitAny_cons (b := false) (kit_ty (a := "tuple") (by decide +kernel)) (fun _ => kitAny_cons (b := true) (kit_ty (a := "tuple") (by decide +kernel)) (fun z => nomatch z) (fun _ => rfl)) (fun z => nomatch z)
theorem walk_zipT {K : PySem.W.Frag} {a b : Addr} {xs ys : List V} {n : Nat} (hn : n = min xs.length ys.length) : Walk (RZ.ItzT K a b) n (fun H => SqT K H a xs ∧ SqT K H b ys) (YPair (fun i => xs[i]?) (fun i => ys[i]?)) := by
  subst hn
  refine ⟨fun i _ hi q => ?_, fun _ q => ⟨xs, ys, q.1, q.2, by omega⟩, fun i H v H' _ q y => ?_⟩
  · have h1 : i < xs.length := by omega
    have h2 : i < ys.length := by omega
    exact ⟨xs, ys, xs[i], ys[i], q.1, q.2, by simp [h1], by simp [h2]⟩
  · obtain ⟨T, x, z, h1, h2, h3, h4, h5⟩ := y
    exact ⟨T, x, z, h1, h2, h3, h4 xs q.1, h5 ys q.2⟩
theorem iteDT {c A B : Prop} [Decidable c] (hc : c) (h : A) : if decide c = true then A else B := by
  rw [decide_eq_true hc, if_pos rfl]
  exact h
def spSame (n : Nat) : Sp := fun vs H Q _ => ∃ (x y : V) (d : PyData), vs = [x, y] ∧ Rep H x d ∧ Rep H y d ∧ d.depth < n ∧ wid d ≤ 90000 ∧ ∀ H', Ex H H' → Q (.bl true) H'
section
variable {P : Program} {w : World} {K : PySem.W.Frag} {mg : Str → Option Value} {base : Heap}
end
end Eyes

set_option Elab.async false
set_option linter.all false
set_option maxRecDepth 100000
set_option maxHeartbeats 4000000
namespace Eyes
open PySem PySem.Spec PyProof.Rows L2 Evl TL
def spPs (K : PySem.W.Frag) (C : Addr) (ok : List Ci → Prop) (g : List Ci → V) : Sp := fun vs H Q _ => ∃ (l : Addr) (us : List V) (ps : List Ci), vs = [.ref l] ∧ SqL K H l us ∧ CisAt C H us ps ∧ us.length ≤ 90000 ∧ ok ps ∧ ∀ H', Ex H H' → Q (g ps) H'
def spCi (C : Addr) (ok : Ci → Prop) (g : Ci → V) : Sp := fun vs H Q _ => ∃ (v : V) (c : Ci), vs = [v] ∧ CiAt C H v c ∧ ok c ∧ ∀ H', Ex H H' → Q (g c) H'
def spParts (C : Addr) : Sp := fun vs H Q _ => ∃ (p dx lp : Addr) (us : List V) (kind name : Str) (s d : Int) (t : Str), vs = [.ref p] ∧ H p = some (.ins C dx (flds kind name lp s d t)) ∧ H lp = some (.lst us) ∧ ∀ l, H l = none → Q (.ref l) (upd H l (.lst us))
section
variable {P : Program} {w : World} {K : PySem.W.Frag} {mg : Str → Option Value} {base : Heap} {AA : Adr}
end
end Eyes

set_option Elab.async false
set_option linter.all false
set_option maxRecDepth 100000
set_option maxHeartbeats 4000000
namespace Eyes
open PySem PySem.Spec PyProof.Rows L2 Evl TL
def inner (c : Ci) : Str := ⟨(wrapL c c.tx).toArray⟩
def spTextOf (K : PySem.W.Frag) (C : Addr) : Sp := fun vs H Q _ => ∃ (l : Addr) (us : List V) (k : Bool) (ps : List Ci), vs = [.str (kindS k), .ref l] ∧ SqL K H l us ∧ CisAt C H us ps ∧ us.length ≤ 900 ∧ (∀ c ∈ ps, c.str.length ≤ 900) ∧ ∀ H', Ex H H' → Q (.str (Ci.node k ps).str) H'
section
variable {P : Program} {w : World} {K : PySem.W.Frag} {mg : Str → Option Value} {base : Heap} {AA : Adr}
end
end Eyes

set_option Elab.async false
set_option linter.all false
set_option maxRecDepth 100000
set_option maxHeartbeats 4000000
namespace Eyes
open PySem PySem.Spec PyProof.Rows L2 Evl TL
def SqLT (K : PySem.W.Frag) (H : Hp) (a : Addr) (xs : List V) : Prop := SqL K H a xs ∨ SqT K H a xs
theorem ex_lt {K : PySem.W.Frag} {H H' : Hp} {a : Addr} {xs : List V} (e : Ex H H') (h : SqLT K H a xs) : SqLT K H' a xs := h.imp (ex_l e) (ex_t e)
theorem for_lt {K : PySem.W.Frag} {j : Nat} {a : Addr} {xs : List V} {g : TG} {tb : TS} {D : Ends} {σ : L2.St} {H : Hp} (hj : σ[j]? = some (some (.ref a))) {G : Hp} (hx : SqLT K G a xs) (e0 : Ex G H) (Pv : Nat → L2.St → Hp → Prop) (h0 : Pv 0 σ H) (hl : ∀ i σ H', Pv i σ H' → Ex G H')
    (hs : ∀ i x σ H, xs[i]? = some x → Pv i σ H → g x σ H fun σ2 H2 => tb { D with nx := Pv (i + 1), ct := Pv (i + 1), bk := D.nx } σ2 H2) (hd : ∀ σ H, Pv xs.length σ H → D.nx σ H) {R : It → Hp → Prop}
    (hR : ∀ J H1, (∃ W : Nat → Nat → L2.St → Hp → Prop, (∃ m, W 0 m σ H1) ∧ ∀ i m σ H, W i m σ H →
      (J.stop i H ∧ D.nx σ H) ∨ (J.go i H ∧ ∃ N : L2.St → Hp → Prop, (∀ σ' H', N σ' H' → ∃ m', m' < m ∧ W (i + 1) m' σ' H') ∧ ∀ x H', J.yld i H x H' → g x σ H' fun σ2 H2 => tb { D with nx := N, ct := N, bk := D.nx } σ2 H2)) = R J H1) :
    iList K (tVar j) σ H R ∨ iTup K (tVar j) σ H R := by
  rcases hx with h | h
  · refine .inl ⟨_, hj, a, rfl, ⟨xs, ex_l e0 h⟩, ?_⟩
    rw [← hR]
    exact for_list Pv h0 (fun i σ H' _ p => ex_l (hl i σ H' p) h) hs hd
  · refine .inr ⟨_, hj, a, rfl, ⟨xs, ex_t e0 h⟩, ?_⟩
    rw [← hR]
    exact for_tup Pv h0 (fun i σ H' _ p => ex_t (hl i σ H' p) h) hs hd
def spFlat (K : PySem.W.Frag) (C : Addr) : Sp := fun vs H Q _ => ∃ (l : Addr) (us : List V) (k : Bool) (cs : List Ci), vs = [.str (kindS k), .ref l] ∧ SqLT K H l us ∧ CisAt C H us cs ∧ (flat k cs).length ≤ 90000 ∧ ∀ l2 ws H', H l2 = none → Ex H H' → H' l2 = some (.lst ws) → CisAt C H ws (flat k cs) → Q (.ref l2) H'
def spDd (K : PySem.W.Frag) (C : Addr) : Sp := fun vs H Q _ => ∃ (l : Addr) (us : List V) (cs : List Ci), vs = [.ref l] ∧ SqL K H l us ∧ CisAt C H us cs ∧ cs.length ≤ 90000 ∧ (∀ c ∈ cs, c.str.length ≤ 900) ∧ ∀ l2 ws H', H l2 = none → Ex H H' → H' l2 = some (.lst ws) → CisAt C H ws (dd [] cs) → Q (.ref l2) H'
section
variable {P : Program} {w : World} {K : PySem.W.Frag} {mg : Str → Option Value} {base : Heap} {AA : Adr}
end
end Eyes

set_option Elab.async false
set_option linter.all false
set_option maxRecDepth 100000
set_option maxHeartbeats 4000000
namespace Eyes
open PySem PySem.Spec PyProof.Rows L2 Evl TL
def spInit (K : PySem.W.Frag) (C : Addr) : Sp := fun vs H Q _ => ∃ (x dx l : Addr) (us : List V) (c : Ci) (G : Hp), vs = [.ref x, .str c.kind, .str c.name, .ref l] ∧ G x = none ∧ Ex G H ∧ H x = some (.ins C dx []) ∧ SqL K G l us ∧ CisAt C G us c.parts ∧ us.length ≤ 900 ∧ (∀ d ∈ c.parts, d.str.length ≤ 900) ∧ (∀ k, c ≠ .node k []) ∧
  ∀ H', Ex G H' → CiAt C H' (.ref x) c → Q .non H'
theorem ex_both {G H : Hp} {p : Addr} {o : HO} (e : Ex G H) : Ex (upd G p o) (upd H p o) := fun a u h => by
  by_cases ha : a = p
  · subst ha
    rw [upd_same] at h ⊢
    exact h
  · rw [upd_ne ha] at h ⊢
    exact e a u h
section
variable {P : Program} {w : World} {K : PySem.W.Frag} {mg : Str → Option Value} {base : Heap} {AA : Adr}
end
end Eyes

set_option Elab.async false
set_option linter.all false
set_option maxRecDepth 100000
set_option maxHeartbeats 4000000
namespace Eyes
open PySem PySem.Spec PyProof.Rows L2 Evl TL
theorem kit_self {K : PySem.W.Frag} {C : Addr} : PySem.W.kitOne K (.ref C) (.ref C) = some true := by
  unfold PySem.W.kitOne
  have e : (Value.ref C == Value.ref C) = true := by simp
  rw [e]
  rfl
def spBuilt (K : PySem.W.Frag) (C : Addr) : Sp := fun vs H Q _ => ∃ (l : Addr) (us : List V) (k : Bool) (cs : List Ci), vs = [.str (kindS k), .ref l] ∧ SqLT K H l us ∧ CisAt C H us cs ∧ Good k cs ∧ ∀ v H', Ex H H' → CiAt C H' v (mkC k cs) → Q v H'
def spSign (C : Addr) (k : Bool) : Sp := fun vs H Q _ => ∃ (x y : V) (c d : Ci), vs = [x, y] ∧ CiAt C H x c ∧ CiAt C H y d ∧ Good k [c, d] ∧ ∀ v H', Ex H H' → CiAt C H' v (mkC k [c, d]) → Q v H'
section
variable {P : Program} {w : World} {K : PySem.W.Frag} {mg : Str → Option Value} {base : Heap} {AA : Adr}
end
end Eyes

set_option Elab.async false
set_option linter.all false
set_option maxRecDepth 100000
set_option maxHeartbeats 4000000
namespace Eyes
open PySem PySem.Spec PyProof.Rows L2 Evl TL
theorem Rep.node {H : Hp} {v : V} {c : Ci} (h : Rep H v c.data) : ∃ (a : Addr) (x : V), v = .ref a ∧ H a = some (.tup [.str c.kind, x]) ∧ (∀ n, c = .eye n → x = .str n) ∧ (∀ k ps, c = .node k ps → ∃ b ws, x = .ref b ∧ H b = some (.tup ws) ∧ Reps H ws (datas ps)) := by
  cases c with
  | eye n =>
    have h : Rep H v (.tuple [.str "eye", .str n]) := h
    cases h with
    | tup h r =>
      cases r with
      | cons h1 r =>
        cases r with
        | cons h2 r =>
          cases r
          cases h1
          cases h2
          exact ⟨_, _, rfl, h, fun m e => (by injection e with e; rw [e]), fun k ps e => (by cases e)⟩
  | node k ps =>
    have h : Rep H v (.tuple [.str (kindS k), .tuple (datas ps)]) := h
    cases h with
    | tup h r =>
      cases r with
      | cons h1 r =>
        cases r with
        | cons h2 r =>
          cases r
          cases h1
          cases h2 with
          | tup h3 r3 => exact ⟨_, _, rfl, h, fun m e => (by cases e), fun j qs e => (by injection e with e1 e2; rw [← e2]; exact ⟨_, _, rfl, h3, r3⟩)⟩
theorem Reps.append {H : Hp} : ∀ {us ws : List V} {cs ds : List PyData}, Reps H us cs → Reps H ws ds → Reps H (us ++ ws) (cs ++ ds)
  | _, _, _, _, .nil, s => s
  | _, _, _, _, .cons h r, s => .cons h (Reps.append r s)
mutual
theorem Rep.dp {K : PySem.W.Frag} {H : Hp} : ∀ {v : V} {d : PyData}, Rep H v d → Dp K H v d
  | _, _, .non => .non
  | _, _, .bl b => .bl b
  | _, _, .int i => .int i
  | _, _, .str x => .str x
  | _, _, .lst h r => .lst (sq_of h) (Reps.dp r)
  | _, _, .tup h r => .tup (st_of h) (Reps.dp r)
theorem Reps.dp {K : PySem.W.Frag} {H : Hp} : ∀ {v : List V} {d : List PyData}, Reps H v d → DpAll K H v d
  | _, _, .nil => .nil
  | _, _, .cons h r => .cons (Rep.dp h) (Reps.dp r)
end
section
variable {P : Program} {w : World} {K : PySem.W.Frag} {mg : Str → Option Value} {base : Heap} {AA : Adr}
def spJoin (K : PySem.W.Frag) : Sp := fun vs H Q _ => ∃ (l : Addr) (us : List V) (k : Bool) (cs : List Ci), vs = [.str (kindS k), .ref l] ∧ SqL K H l us ∧ Reps H us (datas cs) ∧ (∀ c ∈ cs, c.ok) ∧ (∀ c ∈ cs, c.depth ≤ 25) ∧ (flat k cs).length ≤ 90000 ∧ ∀ v H', Ex H H' → Rep H' v (mkC k cs).data → Q v H'
end
end Eyes

set_option Elab.async false
set_option linter.all false
set_option maxRecDepth 100000
set_option maxHeartbeats 4000000
namespace Eyes
open PySem PySem.Spec PyProof.Rows L2 Evl

abbrev letters : Str := "abcdefghijklmnopqrstuvwxyz"
/-! ### values of all kinds -/
inductive Tk where
  | s (z : Str) | i (n : Int) | b (c : Bool) | o
def okS (z : Str) : Prop := z.length ≤ 4000 ∧ ∀ c ∈ z.cps.toList, c < 128
def Knd (K : PySem.W.Frag) (H : Hp) (v : V) : Tk → Prop
  | .s z => v = .str z ∧ okS z
  | .i n => v = .int n
  | .b c => v = .bl c
  | .o => ∃ t, TyX K H v t ∧ PySem.W.kitOne K t (.type "str") = some false ∧ PySem.W.kitOne K t (.type "int") = some false ∧ PySem.W.kitOne K t (.type "bool") = some false
theorem TyX.mono {K : PySem.W.Frag} {H H' : Hp} {v : V} {t : Value} (e : Ex H H') (h : TyX K H v t) : TyX K H' v t := by
  cases h with
  | base h =>
    cases h with
    | non => exact .base .non
    | bl b => exact .base (.bl b)
    | int b => exact .base (.int b)
    | str b => exact .base (.str b)
    | flt b => exact .base (.flt b)
    | lst h => exact .base (.lst (e _ _ h))
    | frz h => exact .base (.frz (e _ _ h))
    | tup h => exact .base (.tup (e _ _ h))
    | dK h => exact .base (.dK (e _ _ h))
    | dT h => exact .base (.dT (e _ _ h))
    | ins h h1 h2 h3 h4 h5 => exact .base (.ins (e _ _ h) h1 h2 h3 h4 h5)
  | byt b => exact .byt b
  | set h => exact .set (e _ _ h)
  | kList h c => exact .kList h c
  | kTuple h c => exact .kTuple h c
  | kDict h c => exact .kDict h c
  | fTuple h => exact .fTuple (e _ _ h)
  | fDict h => exact .fDict (e _ _ h)
theorem Knd.mono {K : PySem.W.Frag} {H H' : Hp} {v : V} {k : Tk} (e : Ex H H') (h : Knd K H v k) : Knd K H' v k := by
  cases k with
  | s z => exact h
  | i n => exact h
  | b c => exact h
  | o => obtain ⟨t, h1, h2⟩ := h; exact ⟨t, TyX.mono e h1, h2⟩
def isS : Tk → Bool | .s _ => true | _ => false
def isI : Tk → Bool | .i _ => true | .b _ => true | _ => false
def isB : Tk → Bool | .b _ => true | _ => false
theorem Knd.ty {K : PySem.W.Frag} {H : Hp} {v : V} {k : Tk} (h : Knd K H v k) : ∃ t, TyX K H v t ∧ PySem.W.kitOne K t (.type "str") = some (isS k) ∧ PySem.W.kitOne K t (.type "int") = some (isI k) ∧ PySem.W.kitOne K t (.type "bool") = some (isB k) := by
  cases k with
  | s z => obtain ⟨rfl, _⟩ := h; exact ⟨_, .base (.str z), kit_ty (r := true) (by decide +kernel), kit_ty (r := false) (by decide +kernel), kit_ty (r := false) (by decide +kernel)⟩
  | i n => cases h; exact ⟨_, .base (.int n), kit_ty (r := false) (by decide +kernel), kit_ty (r := true) (by decide +kernel), kit_ty (r := false) (by decide +kernel)⟩
  | b c => cases h; exact ⟨_, .base (.bl c), kit_ty (r := false) (by decide +kernel), kit_ty (r := true) (by decide +kernel), kit_ty (r := true) (by decide +kernel)⟩
  | o => exact h
def nameS (z : Str) : Bool := decide (1 ≤ z.length) && decide (z.length ≤ 6) && z.cps.toList.all fun c => decide (c ∈ letters.cps.toList)
def nameK : Tk → Bool | .s z => nameS z | _ => false
def numK (lo hi : Int) : Tk → Bool | .i n => decide (lo ≤ n) && decide (n ≤ hi) | _ => false
def spName (K : PySem.W.Frag) : Sp := fun vs H Q _ => ∃ (v : V) (k : Tk), vs = [v] ∧ Knd K H v k ∧ ∀ H', Ex H H' → Q (.bl (nameK k)) H'
def spNum (K : PySem.W.Frag) : Sp := fun vs H Q _ => ∃ (v : V) (k : Tk) (lo hi : Int), vs = [v, .int lo, .int hi] ∧ Knd K H v k ∧ Q (.bl (numK lo hi k)) H
section
variable {P : Program} {w : World} {K : PySem.W.Frag} {mg : Str → Option Value} {base : Heap} {AA : Adr}
theorem ok_is_name (T : Txt K mg AA) : Pr P w K mg base "is_name" s_is_name p_is_name 1 (spName K) := by
  refine pr_mk T.f_is_name sc_is_name (fun vs H Q E h => ?_) (fun f cdv A outer s H vs Q E hr h => ?_)
  · obtain ⟨v, k, rfl, _⟩ := h
    rfl
  · obtain ⟨v, k, rfl, hk, q⟩ := h
    obtain ⟨t, ht, hs, hi, hb⟩ := hk.ty
    refine ⟨_, (pss_cons (ps_if (PW.pt (pw_or (pt_not (pt_val (pe_callB (call_isiK (K := K) rfl) (by rfl) T.n_isinstance PyProof.Rows.boot_isinstance (pa_cons (pv 0) (pa_cons (pe_bltn (v := .ty "str") (by rfl) T.n_str (by decide +kernel) rfl) pa_nil))))) (pw_or1 (pt_not (pt_chain op_le op_le pe_int (pe_callB call_len_str (by rfl) T.n_len PySem.boot_len (pa_cons (pv 0) pa_nil)) (pgI T.m_MOST_LETTERS))))))
      (pss_one (ps_ret pe_bl))
      pss_nil)
      (pss_one (ps_ret (pe_callB (cr_all rfl) (by rfl) T.n_all PyProof.Rows.boot_all (pa_cons (pe_lc (own := [("letter", 1)]) (g := gName 1) (tt := tYes) rfl sc_is_name.nd (pi_str (pv 0)) (blkOk_by (own := [("letter", 1)]) (N := n_is_name) (sc := defScope s_is_name) (by decide +kernel)) (fun _ _ _ _ _ => (pg_name (i := 1) sc_is_name.nd rfl (.inl rfl))) (fun _ _ _ _ _ => pts_nil) (fun _ _ _ _ _ => (pe_cmpR op_in_sign (pv 1) (pgS T.m_LETTERS) rfl))) pa_nil))))), ?_⟩
    refine ⟨_, rfl, v, .ty "str", _, _, _, rfl, .ty _, ht, hs, _, rfl, ?_⟩
    cases k with
    | s z =>
      obtain ⟨rfl, hz, hz2⟩ := hk
      refine iteF ?_
      -- 1 <= len(value) <= MOST_LETTERS
      refine ⟨_, rfl, z, rfl, sz_of (by omega), 1, z.length, rfl, rfl, _, rfl, ite2 (fun h1 => ?_) (fun h1 => ?_)⟩
      · refine ⟨z.length, 6, rfl, rfl, _, rfl, ?_⟩
        have h1 : 1 ≤ z.length := by have := of_decide_eq_true h1; omega
        by_cases h6 : z.length ≤ 6
        · have e6 : decide (((z.length : Nat) : Int) ≤ 6) = true := decide_eq_true (by omega)
          rw [e6]
          refine iteF ?_
          -- all([letter in LETTERS for letter in value])
          refine ⟨_, rfl, z, rfl, fun D hD => lc_it (walk_str (z := z)) (fun i H' => H D = none ∧ Ex H H' ∧ H' D = some (.lst ((z.cps.toList.take i).map fun c => V.bl (decide (c ∈ letters.cps.toList))))) ⟨hD, Ex.new hD, upd_same⟩ (fun _ _ _ _ => True.intro) (fun i v H3 H4 hi hp hy => ?_) (fun H' hp => ?_)⟩
          · obtain ⟨rfl, c, hc, rfl⟩ := hy
            obtain ⟨h1', h2', h3'⟩ := hp
            refine ⟨rfl, _, rfl, c, letters, rfl, rfl, _, h3', ?_, h1', h2'.mut h1', ?_⟩
            · rw [List.length_map, List.length_take]
              exact sz_lt (by have : z.cps.size = z.length := rfl; omega)
            · have hc' : z.cps.toList[i]? = some c := by rw [Array.getElem?_toList]; exact hc
              rw [upd_same, List.take_add_one, hc', List.map_append]
              rfl
          · refine ⟨D, z.cps.toList.map fun c => decide (c ∈ letters.cps.toList), rfl, sq_of (hp.2.2.trans ?_), ?_⟩
            · rw [List.take_of_length_le (by rw [Array.length_toList]; exact Nat.le_refl _), List.map_map]
              rfl
            · have e : (z.cps.toList.map fun c => decide (c ∈ letters.cps.toList)).all id = nameK (.s z) := by
                show _ = nameS z
                unfold nameS
                rw [decide_eq_true h1, decide_eq_true h6, List.all_map]
                rfl
              rw [e]
              exact q _ hp.2.1
        · have e6 : decide (((z.length : Nat) : Int) ≤ 6) = false := decide_eq_false (by omega)
          rw [e6]
          refine iteT ?_
          have e : nameK (.s z) = false := by
            show nameS z = false
            unfold nameS
            rw [decide_eq_false h6, Bool.and_false]
            rfl
          rw [e] at q
          exact q _ (Ex.refl _)
      · refine ⟨_, rfl, iteT ?_⟩
        have h1 : ¬ 1 ≤ z.length := fun h => h1 (decide_eq_true (by omega))
        have e : nameK (.s z) = false := by
          show nameS z = false
          unfold nameS
          rw [decide_eq_false h1]
          rfl
        rw [e] at q
        exact q _ (Ex.refl _)
    | i n => exact iteT (iteT (q _ (Ex.refl _)))
    | b c => exact iteT (iteT (q _ (Ex.refl _)))
    | o => exact iteT (iteT (q _ (Ex.refl _)))
end
end Eyes

set_option Elab.async false
set_option linter.all false
set_option maxRecDepth 100000
set_option maxHeartbeats 4000000
namespace Eyes
open PySem PySem.Spec PyProof.Rows L2 Evl TL
def spWords (n : Nat) : Sp := fun vs H Q _ => ∃ (v : V) (c : Ci), vs = [v] ∧ Rep H v c.data ∧ c.depth < n ∧ c.fine ∧ ∀ H', Ex H H' → Q (.str c.str) H'
def Ci.big (c : Ci) : Prop := c.ok ∧ c.size ≤ 9000
theorem Ci.fine.big {c : Ci} (h : c.fine) : c.big := ⟨h.1, Nat.le_trans h.2 (by decide)⟩
def spNumC (g : Ci → Nat) (n : Nat) : Sp := fun vs H Q _ => ∃ (v : V) (c : Ci), vs = [v] ∧ Rep H v c.data ∧ c.depth < n ∧ c.big ∧ ∀ H', Ex H H' → Q (.int (g c)) H'
def spCirc (C : Addr) (n : Nat) : Sp := fun vs H Q _ => ∃ (v : V) (c : Ci), vs = [v] ∧ Rep H v c.data ∧ c.depth < n ∧ c.depth ≤ 20 ∧ c.size ≤ 60 ∧ c.norm ∧ ∀ v H', Ex H H' → CiAt C H' v c → Q v H'
section
variable {P : Program} {w : World} {K : PySem.W.Frag} {mg : Str → Option Value} {base : Heap} {AA : Adr}
theorem cut_from (xs : List V) : cutV xs (some 1) none = xs.drop 1 := by
  show cutV xs (some ((1 : Nat) : Int)) none = _
  unfold cutV
  rw [HT.sIx_none, HT.sIx_nat]
  cases xs with
  | nil => rfl
  | cons x r =>
    rw [Nat.min_eq_left (by simp)]
    show (r.take _) = r
    rw [List.take_of_length_le (by simp)]
theorem nm_name {n : Str} (h : nm n) : nameS n = true := by
  unfold nameS
  rw [decide_eq_true h.1, decide_eq_true h.2.1]
  show (n.cps.toList.all fun c => decide (c ∈ letters.cps.toList)) = true
  rw [List.all_eq_true]
  intro c hc
  have h2 := h.2.2 c hc
  refine decide_eq_true ?_
  have h3 : letters.cps.toList = (List.range 26).map (· + 97) := by decide +kernel
  rw [h3, List.mem_map]
  exact ⟨c - 97, by rw [List.mem_range]; omega, by omega⟩
theorem nm_okS {n : Str} (h : nm n) : okS n := ⟨by have := h.2.1; omega, fun c hc => by have := h.2.2 c hc; omega⟩
def spEye (C : Addr) : Sp := fun vs H Q _ => ∃ (z : Str), vs = [.str z] ∧ nm z ∧ ∀ v H', Ex H H' → CiAt C H' v (.eye z) → Q v H'
end
end Eyes

set_option Elab.async false
set_option linter.all false
set_option maxRecDepth 100000
set_option maxHeartbeats 4000000
namespace Eyes
open PySem PySem.Spec PyProof.Rows L2 Evl TL
theorem joinL_nil : ∀ l : List (List Nat), joinL [] l = l.flatten
  | [] => rfl
  | [p] => by simp [joinL]
  | p :: q :: r => by
    show p ++ ([] ++ joinL [] (q :: r)) = _
    rw [joinL_nil (q :: r)]
    simp
theorem join_signs (cs : List Nat) : tl (Txt.join ("" : Str) (cs.map fun c => ⟨#[c]⟩)) = cs := by
  rw [join_eq, tl_join, show tl ("" : Str) = [] by decide +kernel, joinL_nil, List.map_map]
  induction cs with
  | nil => rfl
  | cons c cs ih =>
    rw [List.map_cons, List.flatten_cons, ih]
    rfl
theorem sum_signs {cs : List Nat} (h : cs.length ≤ 1000) : ((cs.map fun c => (⟨#[c]⟩ : Str)).map (·.length)).sum + (cs.map fun c => (⟨#[c]⟩ : Str)).length * Str.length ("" : Str) ≤ 16777216 := by
  have e : ((cs.map fun c => (⟨#[c]⟩ : Str)).map (·.length)).sum ≤ cs.length := by
    clear h
    induction cs with
    | nil => exact Nat.le_refl _
    | cons c cs ih =>
      rw [List.map_cons, List.map_cons, List.sum_cons, List.length_cons]
      have : (⟨#[c]⟩ : Str).length = 1 := rfl
      omega
  have e2 : ((cs.map fun c => (⟨#[c]⟩ : Str)).length * Str.length ("" : Str)) = 0 := by
    rw [show Str.length ("" : Str) = 0 by decide +kernel, Nat.mul_zero]
  omega
theorem flat_strs (ts : List Str) : (ts.map V.str).all flatV = true := by
  rw [List.all_map, List.all_eq_true]
  intro t _
  rfl
theorem low_of {z : Str} (h : (z.cps.toList.all fun c => decide (97 ≤ c) && decide (c ≤ 122)) = true) : ∀ c ∈ z.cps.toList, 97 ≤ c ∧ c ≤ 122 := fun c hc => by
  have := List.all_eq_true.mp h c hc
  rw [Bool.and_eq_true] at this
  exact ⟨of_decide_eq_true this.1, of_decide_eq_true this.2⟩
def nmB (z : Str) : Bool := decide (1 ≤ z.length) && decide (z.length ≤ 6) && z.cps.toList.all fun c => decide (97 ≤ c) && decide (c ≤ 122)
theorem nm_of {z : Str} (h : nmB z = true) : nm z := by
  unfold nmB at h
  rw [Bool.and_eq_true, Bool.and_eq_true] at h
  exact ⟨of_decide_eq_true h.1.1, of_decide_eq_true h.1.2, low_of h.2⟩
def nmV : V → Bool | .str z => nmB z | _ => false
theorem nms_of {l : List V} {v : V} (h : l.all nmV = true) (hv : v ∈ l) : ∃ y, v = .str y ∧ nm y := by
  have := List.all_eq_true.mp h v hv
  cases v with
  | str y => exact ⟨y, rfl, nm_of this⟩
  | _ => cases this
theorem free_sign {z : Str} {ts : List Str} (h1 : z.cps.toList.Nodup) (h2 : ts.length < z.length) : (z.cps.toList.filter fun c => !inV (.str ⟨#[c]⟩) (ts.map V.str)) ≠ [] := by
  intro h
  have h3 : ∀ c ∈ z.cps.toList, (⟨#[c]⟩ : Str) ∈ ts := fun c hc => by
    have h4 : ¬ (!inV (.str ⟨#[c]⟩) (ts.map V.str)) = true := fun g => by
      have : c ∈ z.cps.toList.filter fun c => !inV (.str ⟨#[c]⟩) (ts.map V.str) := List.mem_filter.mpr ⟨hc, g⟩
      rw [h] at this
      cases this
    have h5 : inV (.str ⟨#[c]⟩) (ts.map V.str) = true := by simpa using h4
    unfold inV at h5
    rw [List.any_map, List.any_eq_true] at h5
    obtain ⟨t, ht, e⟩ := h5
    have e : (t == (⟨#[c]⟩ : Str)) = true := e
    rw [← (by simpa using e : t = ⟨#[c]⟩)]
    exact ht
  have h6 : (z.cps.toList.map fun c => (⟨#[c]⟩ : Str)).Nodup := by
    refine List.pairwise_map.mpr (h1.imp fun {a b} hn hab => hn ?_)
    injection hab with hab
    simpa using hab
  have h7 := List.Nodup.length_le_of_subset (l₁ := z.cps.toList.map fun c => (⟨#[c]⟩ : Str)) (l₂ := ts) h6 fun x hx => by
    obtain ⟨c, hc, rfl⟩ := List.mem_map.mp hx
    exact h3 c hc
  rw [List.length_map, Array.length_toList] at h7
  have : z.cps.size = z.length := rfl
  omega
def spTtl : Sp := fun vs H Q _ => ∃ (b tk : Addr) (G : Hp) (ts : List Str), vs = [.ref b, .ref tk] ∧ At b G H ∧ G tk = some (.lst (ts.map V.str)) ∧ ts.length ≤ 20 ∧ ∀ z H', nm z → At b G H' → Q (.str z) H'
section
variable {P : Program} {w : World} {K : PySem.W.Frag} {mg : Str → Option Value} {base : Heap} {AA : Adr}
theorem ok_law_title (T : Txt K mg AA) : Pr P w K mg base "_law_title" s_law_title p_law_title 3 spTtl := by
  refine pr_mk T.f_law_title sc_law_title (fun vs H Q E h => ?_) (fun f cdv A outer s H vs Q E hr h => ?_)
  · obtain ⟨b, tk, G, ts, rfl, _⟩ := h
    rfl
  · obtain ⟨b, tk, G, ts, rfl, hA, hT, hts, q⟩ := h
    refine ⟨_, (Evl.pss_cut (ps_if (pt_cmpR op_eq (pcall (ok_law_draw T) hr (pa_cons (pv 0) (pa_cons pe_int pa_nil))) pe_int (nomark _))
      (pss_one (ps_set (i := 2) sc_law_title.nd rfl (.inl rfl) (pcall (ok_law_of T) hr (pa_cons (pv 0) (pa_cons (pe_lst (pa_cons pe_str (pa_cons pe_str (pa_cons pe_str (pa_cons pe_str (pa_cons pe_str (pa_cons pe_str (pa_cons pe_str (pa_cons pe_str (pa_cons pe_str (pa_cons pe_str (pa_cons pe_str pa_nil)))))))))))) pa_nil)))))
      (pss_one (ps_set (i := 2) sc_law_title.nd rfl (.inl rfl) (pe_join pe_str (pe_lc (own := [("_law_k", 3)]) (g := gName 3) (tt := tYes) rfl sc_law_title.nd (pi_range1 (by rfl) T.n_range (pa_cons (pe_op op_add pe_int (pcall (ok_law_draw T) hr (pa_cons (pv 0) (pa_cons pe_int pa_nil)))) pa_nil)) (blkOk_by (own := [("_law_k", 3)]) (N := n_law_title) (sc := defScope s_law_title) (by decide +kernel)) (fun _ _ _ _ _ => (pg_name (i := 3) sc_law_title.nd rfl (.inl rfl))) (fun _ _ _ _ _ => pts_nil) (fun _ _ _ _ _ => (pcall (ok_law_of T) hr (pa_cons (pv 0) (pa_cons pe_str pa_nil)))))))))
      (pss_cons (ps_if (pt_cmpR (op_in_seqK (K := K) rfl) (pv 2) (pv 1) (by rfl))
      (pss_one (ps_set (i := 2) sc_law_title.nd rfl (.inl rfl) (pe_ix (ix_listK (K := K) rfl) (pe_lc (own := [("_law_sign", 4)]) (g := gName 4) rfl sc_law_title.nd (pi_str pe_str) (blkOk_by (own := [("_law_sign", 4)]) (N := n_law_title) (sc := defScope s_law_title) (by decide +kernel)) (fun _ _ _ _ _ => (pg_name (i := 4) sc_law_title.nd rfl (.inl rfl))) (fun _ _ _ _ _ => (pts_one (pt_cmpR (op_notIn_seqK (K := K) rfl) (pv 4) (pv 1) (by rfl)))) (fun _ _ _ _ _ => (pv 4))) pe_int (fun _ _ => rfl))))
      pss_nil)
      (pss_one (ps_ret (pv 2))))), ?_⟩
    refine ⟨fun σ H' => ∃ (z : Str) (y3 y4 : Option V), σ = [some (.ref b), some (.ref tk), some (.str z), y3, y4] ∧ nm z ∧ At b G H', ?_, fun σ H' hM => ?_⟩
    · refine ⟨_, rfl, b, 7, G, rfl, hA, by decide, by decide, fun tn H1 t0 t1 hA1 => ⟨rfl, _, rfl, ite2 (fun hb => ?_) (fun hb => ?_)⟩⟩
      · refine ⟨_, rfl, by show 11 ≤ sizeLine; decide, fun p hp => ?_⟩
        refine ⟨b, .ref p, _, _, rfl, hA1.new hp, .inl ⟨p, rfl, sq_of upd_same⟩, by decide +kernel, by decide +kernel, fun v H6 hv hA6 => ?_⟩
        have hA7 := hA6.weak (Ex.new (hA1.nh hp))
        obtain ⟨y, rfl, hy⟩ := nms_of (by decide +kernel) hv
        exact ⟨y, none, none, rfl, hy, hA7⟩
      · refine ⟨⟨_, rfl⟩, _, rfl, b, 6, G, rfl, hA1, by decide, by decide, fun sz H2 z0 z1 hA2 => ?_⟩
        refine ⟨1, sz, rfl, rfl, _, rfl, by omega, by omega, fun D hD => lc_it walk_range (fun i H' => ∃ cs : List Nat, cs.length = i ∧ (∀ c ∈ cs, 97 ≤ c ∧ c ≤ 122) ∧ At b (upd G D (.lst (cs.map fun c => V.str ⟨#[c]⟩))) H')
          ⟨[], rfl, (fun c hc => by cases hc), hA2.new hD⟩ (fun _ _ _ _ => True.intro) (fun i v H3 H4 hi hp hy => ?_) (fun H' hp => ?_)⟩
        · obtain ⟨rfl, rfl⟩ := hy
          obtain ⟨cs, hl, hc, hA3⟩ := hp
          refine ⟨rfl, ?_⟩
          refine ⟨_, rfl, b, _, _, _, rfl, hA3, .inr (.inr ⟨_, rfl, by decide +kernel, rfl⟩), by decide +kernel, by decide +kernel, fun v H5 hv hA5 => ?_⟩
          obtain ⟨c, hcm, rfl⟩ := List.mem_map.mp hv
          have hlo := low_of (by decide +kernel) c hcm
          refine ⟨_, hA5.ex _ _ upd_same, ?_, cs ++ [c], by simp [hl], ?_, ?_⟩
          · rw [List.length_map]
            exact sz_lt (by omega)
          · intro d hd
            rcases List.mem_append.mp hd with h | h
            · exact hc d h
            · rw [List.mem_singleton.mp h]
              exact hlo
          · rw [List.map_append]
            exact hA5.put
        · obtain ⟨cs, hl, hc, hA3⟩ := hp
          have hlen : cs.length ≤ 6 := by omega
          have hlen1 : 1 ≤ cs.length := by omega
          refine ⟨"", D, cs.map fun c => ⟨#[c]⟩, rfl, rfl, .inl (sq_of ((hA3.ex _ _ upd_same).trans (by rw [List.map_map]; rfl))), sum_signs (by omega), ?_⟩
          have hz : nm (Txt.join ("" : Str) (cs.map fun c => ⟨#[c]⟩)) := by
            have e := join_signs cs
            refine ⟨by rw [len_tl, e]; exact hlen1, by rw [len_tl, e]; exact hlen, fun c h => ?_⟩
            rw [e] at h
            exact hc c h
          exact ⟨_, none, none, rfl, hz, hA3.weak (Ex.new (hA2.nh hD))⟩
    · obtain ⟨z, y3, y4, rfl, hz, hA⟩ := hM
      have hT1 := hA.ex _ _ hT
      refine ⟨_, rfl, _, rfl, tk, ts.map V.str, rfl, .inl (sq_of hT1), rfl, flat_strs ts, _, rfl, ite2 (fun hb => ?_) (fun hb => ?_)⟩
      · have hnd : (Str.ofString "xkvjqgzwybhfpmucldnrsoiaet").cps.toList.Nodup := by decide +kernel
        have hlow : ∀ c ∈ (Str.ofString "xkvjqgzwybhfpmucldnrsoiaet").cps.toList, 97 ≤ c ∧ c ≤ 122 := low_of (by decide +kernel)
        have h26 : (Str.ofString "xkvjqgzwybhfpmucldnrsoiaet").length = 26 := by decide +kernel
        generalize (Str.ofString "xkvjqgzwybhfpmucldnrsoiaet") = zz at hnd hlow h26
        have hz26 : zz.cps.size = 26 := h26
        refine ⟨_, rfl, fun D hD => lc_it (walk_str (z := zz)) (fun i H' => At b (upd G D (.lst (((zz.cps.toList.take i).filter fun c => !inV (.str ⟨#[c]⟩) (ts.map V.str)).map fun c => V.str ⟨#[c]⟩))) H') (hA.new hD) (fun _ _ _ _ => True.intro) (fun i v H3 H4 hi hp hy => ?_) (fun H' hp => ?_)⟩
        · obtain ⟨rfl, c, hc, rfl⟩ := hy
          have hDG : G D = none := hA.nh hD
          have hT3 : (upd G D (.lst (((zz.cps.toList.take i).filter fun c => !inV (.str ⟨#[c]⟩) (ts.map V.str)).map fun c => V.str ⟨#[c]⟩))) tk = some (.lst (ts.map V.str)) := (upd_ne (ne_of_none hT hDG)).trans hT
          have hc' : zz.cps.toList[i]? = some c := by rw [Array.getElem?_toList]; exact hc
          refine ⟨rfl, _, rfl, _, rfl, tk, ts.map V.str, rfl, .inl (sq_of (hp.ex _ _ hT3)), rfl, flat_strs ts, _, rfl, ite2 (fun hb => ?_) (fun hb => ?_)⟩
          · have hb : (!inV (.str ⟨#[c]⟩) (ts.map V.str)) = true := hb
            refine ⟨_, rfl, _, hp.ex _ _ upd_same, ?_, ?_⟩
            · rw [List.length_map]
              refine sz_lt (Nat.lt_of_le_of_lt (List.length_filter_le _ _) ?_)
              rw [List.length_take]
              omega
            · have e : ((zz.cps.toList.take (i + 1)).filter fun c => !inV (.str ⟨#[c]⟩) (ts.map V.str)) = ((zz.cps.toList.take i).filter fun c => !inV (.str ⟨#[c]⟩) (ts.map V.str)) ++ [c] := by
                rw [List.take_add_one, hc', List.filter_append]
                show _ ++ List.filter _ [c] = _
                rw [List.filter_cons, if_pos hb]
                rfl
              rw [e, List.map_append]
              exact hp.put
          · have hb : ¬ (!inV (.str ⟨#[c]⟩) (ts.map V.str)) = true := hb
            have e : ((zz.cps.toList.take (i + 1)).filter fun c => !inV (.str ⟨#[c]⟩) (ts.map V.str)) = ((zz.cps.toList.take i).filter fun c => !inV (.str ⟨#[c]⟩) (ts.map V.str)) := by
              rw [List.take_add_one, hc', List.filter_append]
              show _ ++ List.filter _ [c] = _
              rw [List.filter_cons, if_neg hb]
              exact List.append_nil _
            show At b (upd G D (.lst (((zz.cps.toList.take (i + 1)).filter fun c => !inV (.str ⟨#[c]⟩) (ts.map V.str)).map fun c => V.str ⟨#[c]⟩))) H4
            rw [e]
            exact hp
        · rw [List.take_of_length_le (by rw [Array.length_toList]; exact Nat.le_refl _)] at hp
          have hne := free_sign (ts := ts) hnd (by omega)
          have hlow2 : ∀ c ∈ zz.cps.toList.filter (fun c => !inV (.str ⟨#[c]⟩) (ts.map V.str)), 97 ≤ c ∧ c ≤ 122 := fun c hc => hlow c (List.mem_filter.mp hc).1
          revert hp hne hlow2
          generalize (zz.cps.toList.filter fun c => !inV (.str ⟨#[c]⟩) (ts.map V.str)) = fl
          intro hp hne hlow2
          cases fl with
          | nil => exact absurd rfl hne
          | cons c r =>
            refine ⟨D, _, 0, .str ⟨#[c]⟩, rfl, rfl, sq_of (hp.ex _ _ upd_same), at_of (j := 0) rfl rfl, _, rfl, q _ _ ?_ (hp.weak (Ex.new (hA.nh hD)))⟩
            refine ⟨Nat.le_refl 1, (show 1 ≤ 6 by decide), fun x hx => ?_⟩
            have hx : x ∈ [c] := hx
            rw [List.mem_singleton.mp hx]
            exact hlow2 c List.mem_cons_self
      · exact ⟨_, rfl, q z _ hz hA⟩
end
end Eyes

set_option Elab.async false
set_option linter.all false
set_option maxRecDepth 100000
set_option maxHeartbeats 4000000
namespace Eyes
open PySem PySem.Spec PyProof.Rows L2 Evl TL
def spTtls : Sp := fun vs H Q _ => ∃ (b : Addr) (z : Int) (G : Hp), vs = [.ref b, .int z] ∧ At b G H ∧ 0 ≤ z ∧ z ≤ 21 ∧ ∀ (l : Addr) (ts : List Str) (H' : Hp), G l = none → At b (upd G l (.lst (ts.map V.str))) H' → (ts.length : Int) = z → (∀ t ∈ ts, nm t) → Q (.ref l) H'
theorem cutS_to (x : Str) (k : Nat) : cutS x none (some (k : Int)) = ⟨((tl x).take k).toArray⟩ := by
  refine ext_tl ?_
  show (x.cps.toList.drop _).take _ = (tl x).take k
  rw [HT.sIx_none, HT.sIx_nat, List.drop_zero, Nat.sub_zero]
  have hl : x.cps.toList.length = x.length := Array.length_toList
  rcases Nat.le_total k x.length with h | h
  · rw [Nat.min_eq_left h]
  · rw [Nat.min_eq_right h, List.take_of_length_le (by omega)]
    show _ = x.cps.toList.take k
    rw [List.take_of_length_le (by omega)]
theorem cutS_from (x : Str) (k : Nat) : cutS x (some (k : Int)) none = ⟨((tl x).drop k).toArray⟩ := by
  refine ext_tl ?_
  show (x.cps.toList.drop _).take _ = (tl x).drop k
  rw [HT.sIx_none, HT.sIx_nat]
  have hl : x.cps.toList.length = x.length := Array.length_toList
  rw [List.take_of_length_le (by rw [List.length_drop]; omega)]
  rcases Nat.le_total k x.length with h | h
  · rw [Nat.min_eq_left h]
  · rw [Nat.min_eq_right h, List.drop_of_length_le (by omega)]
    show _ = x.cps.toList.drop k
    rw [List.drop_of_length_le (by omega)]
section
variable {P : Program} {w : World} {K : PySem.W.Frag} {mg : Str → Option Value} {base : Heap} {AA : Adr}
theorem ok_law_titles (T : Txt K mg AA) : Pr P w K mg base "_law_titles" s_law_titles p_law_titles 4 spTtls := by
  refine pr_mk T.f_law_titles sc_law_titles (fun vs H Q E h => ?_) (fun f cdv A outer s H vs Q E hr h => ?_)
  · obtain ⟨b, z, G, rfl, _⟩ := h
    rfl
  · obtain ⟨b, z, G, rfl, hA, hz0, hz1, q⟩ := h
    refine ⟨_, (pss_cons (ps_set (i := 2) sc_law_titles.nd rfl (.inl rfl) (pe_lst pa_nil))
      (pss_cons (ps_if (pt_cmpR op_eq (pcall (ok_law_draw T) hr (pa_cons (pv 0) (pa_cons pe_int pa_nil))) pe_int (nomark _))
      (pss_cons (ps_set (i := 4) sc_law_titles.nd rfl (.inl rfl) (pe_join pe_str (pe_lc (own := [("_law_k", 3)]) (g := gName 3) (tt := tYes) rfl sc_law_titles.nd (pi_range1 (by rfl) T.n_range (pa_cons (pcall (ok_law_draw T) hr (pa_cons (pv 0) (pa_cons pe_int pa_nil))) pa_nil)) (blkOk_by (own := [("_law_k", 3)]) (N := n_law_titles) (sc := defScope s_law_titles) (by decide +kernel)) (fun _ _ _ _ _ => (pg_name (i := 3) sc_law_titles.nd rfl (.inl rfl))) (fun _ _ _ _ _ => pts_nil) (fun _ _ _ _ _ => (pcall (ok_law_of T) hr (pa_cons (pv 0) (pa_cons pe_str pa_nil)))))))
      (pss_cons (ps_par (i := 5) (j := 6) rfl sc_law_titles.nd rfl rfl (by decide) rfl rfl (pa_cons (pcall (ok_law_draw T) hr (pa_cons (pv 0) (pa_cons (pe_op op_add (pe_callB call_len_str (by rfl) T.n_len PySem.boot_len (pa_cons (pv 4) pa_nil)) pe_int) pa_nil))) (pa_cons (pcall (ok_law_draw T) hr (pa_cons (pv 0) (pa_cons pe_int pa_nil))) pa_nil)) rfl)
      (pss_cons (ps_for PassesOwn.never rfl (pi_range1 (by rfl) T.n_range (pa_cons (pv 1) pa_nil)) (pg_name (i := 3) sc_law_titles.nd rfl (.inl rfl))
      (pss_one (ps_expr (pe_bm PySem.F.plainAttrs_list PySem.F.slot_list_append PySem.F.type_list_append mt_append (pv 2) (pa_cons (pe_op op_add_str (pe_op op_add_str (pe_slice sl_str (pv 4) po_none (po_some (pv 5))) (pe_ix ix_str pe_str (pe_op op_mod (pe_callTy call_int1 (by rfl) T.n_int PyProof.Rows.boot_int (pa_cons (pe_op op_add (pv 6) (pe_op op_mul pe_int (pv 3))) pa_nil)) pe_int) (fun _ _ => rfl))) (pe_slice sl_str (pv 4) (po_some (pv 5)) po_none)) pa_nil)))))
      (pss_one (ps_ret (pv 2))))))
      pss_nil)
      (pss_cons (ps_for PassesOwn.never rfl (pi_range1 (by rfl) T.n_range (pa_cons (pv 1) pa_nil)) (pg_name (i := 3) sc_law_titles.nd rfl (.inl rfl))
      (pss_one (ps_expr (pe_bm PySem.F.plainAttrs_list PySem.F.slot_list_append PySem.F.type_list_append mt_append (pv 2) (pa_cons (pcall (ok_law_title T) hr (pa_cons (pv 0) (pa_cons (pv 2) pa_nil))) pa_nil)))))
      (pss_one (ps_ret (pv 2)))))), ?_⟩
    refine ⟨by show 0 ≤ sizeLine; decide, fun l hl => ?_⟩
    have hGl := hA.nh hl
    have hA0 : At b (upd G l (.lst (([] : List Str).map V.str))) (upd H l (.lst [])) := hA.new hl
    refine ⟨_, rfl, b, 3, _, rfl, hA0, by decide, by decide, fun tn H1 t0 t1 hA1 => ⟨rfl, _, rfl, ite2 (fun hb => ?_) (fun hb => ?_)⟩⟩
    · have hlowS : ∀ c ∈ (Str.ofString "tfkqzjbxhcwgmvyonpsrdlieua").cps.toList, 97 ≤ c ∧ c ≤ 122 := low_of (by decide +kernel)
      have hlowQ : ∀ c ∈ (Str.ofString "qazwsxedcrfvtgbyhnujmikolp").cps.toList, 97 ≤ c ∧ c ≤ 122 := low_of (by decide +kernel)
      have hlenQ : (Str.ofString "qazwsxedcrfvtgbyhnujmikolp").length = 26 := by decide +kernel
      have hSeq : SeqV K (upd G l (.lst (([] : List Str).map V.str))) (.str (Str.ofString "tfkqzjbxhcwgmvyonpsrdlieua")) ((Str.ofString "tfkqzjbxhcwgmvyonpsrdlieua").cps.toList.map fun c => V.str ⟨#[c]⟩) := .inr (.inr ⟨_, rfl, by decide +kernel, rfl⟩)
      have hlenS : (Str.ofString "tfkqzjbxhcwgmvyonpsrdlieua").length = 26 := by decide +kernel
      generalize (Str.ofString "tfkqzjbxhcwgmvyonpsrdlieua") = zs at hlowS hSeq hlenS
      generalize (Str.ofString "qazwsxedcrfvtgbyhnujmikolp") = zq at hlowQ hlenQ
      have hzs : (zs.cps.toList.map fun c => V.str ⟨#[c]⟩).length = 26 := by
        rw [List.length_map, Array.length_toList]
        exact hlenS
      refine ⟨⟨_, rfl⟩, _, rfl, b, 6, _, rfl, hA1, by decide, by decide, fun sz H2 z0 z1 hA2 => ⟨_, rfl, by omega, by omega, fun D hD => lc_it walk_range (fun i H' => ∃ cs : List Nat, cs.length = i ∧ (∀ c ∈ cs, 97 ≤ c ∧ c ≤ 122) ∧ At b (upd (upd G l (.lst (([] : List Str).map V.str))) D (.lst (cs.map fun c => V.str ⟨#[c]⟩))) H')
          ⟨[], rfl, (fun c hc => by cases hc), hA2.new hD⟩ (fun _ _ _ _ => True.intro) (fun i v H3 H4 hi hp hy => ?_) (fun H' hp => ?_)⟩⟩
      · obtain ⟨rfl, rfl⟩ := hy
        obtain ⟨cs, hl, hc, hA3⟩ := hp
        refine ⟨rfl, ?_⟩
        refine ⟨_, rfl, b, _, _, _, rfl, hA3, hSeq.mono (Ex.new (hA2.nh hD)), by omega, by omega, fun v H5 hv hA5 => ?_⟩
        obtain ⟨c, hcm, rfl⟩ := List.mem_map.mp hv
        refine ⟨_, hA5.ex _ _ upd_same, ?_, cs ++ [c], by simp [hl], ?_, ?_⟩
        · rw [List.length_map]
          exact sz_lt (by omega)
        · intro d hd
          rcases List.mem_append.mp hd with h | h
          · exact hc d h
          · rw [List.mem_singleton.mp h]
            exact hlowS c hcm
        · rw [List.map_append]
          exact hA5.put
      · obtain ⟨cs, hl, hc, hA3⟩ := hp
        have hlen : cs.length ≤ 5 := by omega
        refine ⟨"", D, cs.map fun c => ⟨#[c]⟩, rfl, rfl, .inl (sq_of ((hA3.ex _ _ upd_same).trans (by rw [List.map_map]; rfl))), sum_signs (by omega), ?_⟩
        have hst : tl (Txt.join ("" : Str) (cs.map fun c => ⟨#[c]⟩)) = cs := join_signs cs
        generalize Txt.join ("" : Str) (cs.map fun c => ⟨#[c]⟩) = st at hst
        have hA4 := hA3.weak (Ex.new (hA2.nh hD))
        have hstl : st.length ≤ 5 := by rw [len_tl, hst]; exact hlen
        refine ⟨_, rfl, _, rfl, st, rfl, sz_of (by omega), _, _, rfl, rfl, b, _, _, rfl, hA4, by omega, by omega, fun sp H5 sp0 sp1 hA5 => ?_⟩
        refine ⟨_, rfl, b, 26, _, rfl, hA5, by decide, by decide, fun bg H6 bg0 bg1 hA6 => ⟨_, _, rfl, ?_⟩⟩
        refine ⟨_, rfl, z, rfl, by omega, by omega, ?_⟩
        refine for_it walk_range (fun i σ H' => ∃ (ts : List Str) (y3 : Option V), σ = [some (.ref b), some (.int z), some (.ref l), y3, some (.str st), some (.int sp), some (.int bg)] ∧ ts.length = i ∧ (∀ t ∈ ts, nm t) ∧ At b (upd G l (.lst (ts.map V.str))) H') ⟨[], _, rfl, rfl, (fun t ht => by cases ht), hA6⟩ (fun _ _ _ _ _ => True.intro) (fun i v σ H3 H4 hi hp hy => ?_) (fun σ H' hp => ?_)
        · obtain ⟨rfl, rfl⟩ := hy
          obtain ⟨ts, y3, rfl, hlen2, hnm, hA7⟩ := hp
          refine ⟨_, rfl, .inl ⟨rfl, _, sq_of (hA7.ex _ _ upd_same)⟩, ?_⟩
          have hm0 : 0 ≤ (bg + 5 * (0 + (i : Int))) % 26 := Int.emod_nonneg _ (by decide)
          have hm1 : (bg + 5 * (0 + (i : Int))) % 26 < 26 := Int.emod_lt_of_pos _ (by decide)
          have hsz : zq.cps.toList.length = 26 := by rw [Array.length_toList]; exact hlenQ
          obtain ⟨ix, hix⟩ : ∃ ix, ix = (bg + 5 * (0 + (i : Int))) % 26 := ⟨_, rfl⟩
          rw [← hix] at hm0 hm1
          have hlt : ix.toNat < zq.cps.toList.length := by omega
          have hget := List.getElem?_eq_getElem hlt
          have hcl := hlowQ _ (List.getElem_mem hlt)
          generalize zq.cps.toList[ix.toNat] = c at hget hcl
          have hspn : sp = (sp.toNat : Int) := by omega
          have e1 : tl (cutS st none (some sp)) = cs.take sp.toNat := by rw [hspn, cutS_to, hst]; rfl
          have e2 : tl (cutS st (some sp) none) = cs.drop sp.toNat := by rw [hspn, cutS_from, hst]; rfl
          have l1 : (cutS st none (some sp)).length ≤ 5 := by
            rw [len_tl, e1, List.length_take]
            omega
          have l2 : (cutS st (some sp) none).length ≤ 5 := by
            rw [len_tl, e2, List.length_drop]
            omega
          have lc : (⟨#[c]⟩ : Str).length = 1 := rfl
          have nt : nm ((cutS st none (some sp) ++ ⟨#[c]⟩) ++ cutS st (some sp) none) := by
            have e3 : tl ((cutS st none (some sp) ++ ⟨#[c]⟩) ++ cutS st (some sp) none) = (cs.take sp.toNat ++ [c]) ++ cs.drop sp.toNat := by
              rw [tl_append, tl_append, e1, e2]
            have e4 : ((cs.take sp.toNat ++ [c]) ++ cs.drop sp.toNat).length = cs.length + 1 := by
              rw [List.length_append, List.length_append, List.length_take, List.length_drop, List.length_singleton]
              have := Nat.min_le_right sp.toNat cs.length
              omega
            refine ⟨by rw [len_tl, e3, e4]; omega, by rw [len_tl, e3, e4]; omega, fun x hx => ?_⟩
            rw [e3] at hx
            rcases List.mem_append.mp hx with hx | hx
            · rcases List.mem_append.mp hx with hx | hx
              · exact hc x (List.mem_of_mem_take hx)
              · rw [List.mem_singleton.mp hx]
                exact hcl
            · exact hc x (List.mem_of_mem_drop hx)
          refine ⟨_, rfl, _, rfl, sp, rfl, st, rfl, sz_of (by omega), ?_⟩
          refine ⟨_, rfl, _, rfl, 5, _, rfl, rfl, .inl ⟨by decide, by decide⟩, bg, _, rfl, rfl, .inl ⟨_, rfl, _, 26, rfl, rfl, (show (0 : Int) < 26 by decide), ?_⟩⟩
          refine ⟨zq, _, c, rfl, rfl, sz_of (by have : zq.length = 26 := hlenQ; omega), at_of' (by rw [← hix]; exact hm0) (by rw [← hix]; exact hget), _, _, rfl, rfl, sz_of (by omega), ?_⟩
          refine ⟨_, rfl, _, rfl, sp, rfl, st, rfl, sz_of (by omega), _, _, rfl, rfl, sz_of ?_, ?_⟩
          · rw [len_tl, tl_append, List.length_append, ← len_tl, ← len_tl]
            omega
          · refine ⟨l, _, _, rfl, rfl, hA7.ex _ _ upd_same, sz_lt (by rw [List.length_map]; omega), ts ++ [(cutS st none (some sp) ++ ⟨#[c]⟩) ++ cutS st (some sp) none], _, rfl, by simp [hlen2], ?_, ?_⟩
            · intro x hx
              rcases List.mem_append.mp hx with h | h
              · exact hnm x h
              · rw [List.mem_singleton.mp h]
                exact nt
            · rw [List.map_append]
              exact hA7.put
        · obtain ⟨ts, y3, rfl, hlen2, hnm, hA7⟩ := hp
          exact ⟨_, rfl, q l ts H' hGl hA7 (by omega) hnm⟩
    · refine ⟨_, rfl, z, rfl, by omega, by omega, ?_⟩
      refine for_it walk_range (fun i σ H' => ∃ (ts : List Str) (y3 y4 y5 y6 : Option V), σ = [some (.ref b), some (.int z), some (.ref l), y3, y4, y5, y6] ∧ ts.length = i ∧ (∀ t ∈ ts, nm t) ∧ At b (upd G l (.lst (ts.map V.str))) H') ⟨[], none, none, none, none, rfl, rfl, (fun t ht => by cases ht), hA1⟩ (fun _ _ _ _ _ => True.intro) (fun i v σ H3 H4 hi hp hy => ?_) (fun σ H' hp => ?_)
      · obtain ⟨rfl, rfl⟩ := hy
        obtain ⟨ts, y3, y4, y5, y6, rfl, hlen, hnm, hA2⟩ := hp
        refine ⟨_, rfl, .inl ⟨rfl, _, sq_of (hA2.ex _ _ upd_same)⟩, _, rfl, _, rfl, b, l, _, ts, rfl, hA2, upd_same, by omega, fun t H5 ht hA3 => ?_⟩
        refine ⟨l, _, _, rfl, rfl, hA3.ex _ _ upd_same, sz_lt (by rw [List.length_map]; omega), ts ++ [t], _, _, _, _, rfl, by simp [hlen], ?_, ?_⟩
        · intro x hx
          rcases List.mem_append.mp hx with h | h
          · exact hnm x h
          · rw [List.mem_singleton.mp h]
            exact ht
        · rw [List.map_append]
          exact hA3.put
      · obtain ⟨ts, y3, y4, y5, y6, rfl, hlen, hnm, hA2⟩ := hp
        exact ⟨_, rfl, q l ts H' hGl hA2 (by omega) hnm⟩
end
end Eyes

set_option Elab.async false
set_option linter.all false
set_option maxRecDepth 100000
set_option maxHeartbeats 4000000
namespace Eyes
open PySem PySem.Spec PyProof.Rows L2 Evl TL
theorem At.all {b : Addr} {G H0 H : Hp} (h : At b G H0) (e : Ex H0 H) : ∃ G', At b G' H ∧ Ex G G' ∧ ∀ a, (∀ xs, H0 a ≠ some (.lst xs)) → G' a = H a := by
  obtain ⟨c, ns, i, r, m, n, B⟩ := h
  refine ⟨fun a => if a = b ∨ a = c then none else H a, ⟨c, ns, i, r, m, n, if_pos (.inl rfl), if_pos (.inr rfl), fun a o ha => ?_, e _ _ B.at_, e _ _ B.cells, B.ne, B.i0, B.r0, B.m0, B.m1⟩, fun a o ha => ?_, fun a ha => ?_⟩
  · by_cases hab : a = b ∨ a = c
    · rw [show (if a = b ∨ a = c then none else H a) = none from if_pos hab] at ha
      cases ha
    · rw [show (if a = b ∨ a = c then none else H a) = H a from if_neg hab] at ha
      exact ha
  · have hab : ¬ (a = b ∨ a = c) := by
      rintro (rfl | rfl)
      · rw [B.nb] at ha
        cases ha
      · rw [B.nc] at ha
        cases ha
    exact (show (if a = b ∨ a = c then none else H a) = H a from if_neg hab).trans (e _ _ (B.ex _ _ ha))
  · refine if_neg ?_
    rintro (rfl | rfl)
    · exact ha _ B.at_
    · exact ha _ B.cells
mutual
theorem Rep.tups {H H' : Hp} (e : ∀ a xs, H a = some (.tup xs) → H' a = some (.tup xs)) : ∀ {c : Ci} {v : V}, Rep H v c.data → Rep H' v c.data
  | .eye n, v, h => by
    have h : Rep H v (.tuple [.str "eye", .str n]) := h
    cases h with
    | tup h r =>
      cases r with
      | cons h1 r =>
        cases r with
        | cons h2 r =>
          cases r
          cases h1
          cases h2
          exact .tup (e _ _ h) (.cons (.str _) (.cons (.str _) .nil))
  | .node k ps, v, h => by
    have h : Rep H v (.tuple [.str (kindS k), .tuple (datas ps)]) := h
    cases h with
    | tup h r =>
      cases r with
      | cons h1 r =>
        cases r with
        | cons h2 r =>
          cases r
          cases h1
          cases h2 with
          | tup h3 r3 => exact .tup (e _ _ h) (.cons (.str _) (.cons (.tup (e _ _ h3) (Reps.tups e r3)) .nil))
theorem Reps.tups {H H' : Hp} (e : ∀ a xs, H a = some (.tup xs) → H' a = some (.tup xs)) : ∀ {cs : List Ci} {vs : List V}, Reps H vs (datas cs) → Reps H' vs (datas cs)
  | [], vs, h => by
    have h : Reps H vs [] := h
    cases h
    exact .nil
  | c :: r, vs, h => by
    have h : Reps H vs (c.data :: datas r) := h
    cases h with
    | cons h1 h2 => exact .cons (Rep.tups e h1) (Reps.tups e h2)
end
theorem At.node {b : Addr} {G H0 H : Hp} {v : V} {c : Ci} (h : At b G H0) (e : Ex H0 H) (hv : Rep H v c.data) : ∃ G', At b G' H ∧ Ex G G' ∧ Rep G' v c.data := by
  obtain ⟨G', h1, h2, h3⟩ := h.all e
  refine ⟨G', h1, h2, hv.tups fun a xs ha => ?_⟩
  rw [h3 a fun ys hy => ?_]
  · exact ha
  · rw [e _ _ hy] at ha
    cases ha
theorem upd_self {G : Hp} {p : Addr} {o : HO} (h : G p = some o) : upd G p o = G := by
  funext a
  by_cases e : a = p
  · subst e
    rw [upd_same, h]
  · exact upd_ne e
theorem At.put' {b : Addr} {G H : Hp} {p : Addr} {o o' : HO} (h : At b G H) (hp : G p = some o) : At b (upd G p o') (upd H p o') := by
  have h2 : At b (upd G p o) H := by rw [upd_self hp]; exact h
  exact h2.put
def spNode (n : Nat) : Sp := fun vs H Q _ => ∃ (b tl : Addr) (d : Nat) (G : Hp) (ts : List Str), vs = [.ref b, .ref tl, .int d] ∧ At b G H ∧ G tl = some (.lst (ts.map V.str)) ∧ ts ≠ [] ∧ ts.length ≤ 1000 ∧ (∀ t ∈ ts, nm t) ∧ d < n ∧ d ≤ 8 ∧
  ∀ (v : V) (c : Ci) (G' H' : Hp), Ex G G' → At b G' H' → Rep G' v c.data → c.norm → c.depth ≤ d → c.size ≤ 3 ^ d → Q v H'
section
variable {P : Program} {w : World} {K : PySem.W.Frag} {mg : Str → Option Value} {base : Heap} {AA : Adr}
end
end Eyes

set_option Elab.async false
set_option linter.all false
set_option maxRecDepth 100000
set_option maxHeartbeats 4000000
namespace Eyes
open PySem PySem.Spec PyProof.Rows L2 Evl TL
def spLadder : Sp := fun vs H Q _ => ∃ (b tl : Addr) (d : Nat) (G : Hp) (ts : List Str), vs = [.ref b, .ref tl, .int d] ∧ At b G H ∧ G tl = some (.lst (ts.map V.str)) ∧ ts ≠ [] ∧ ts.length ≤ 1000 ∧ (∀ t ∈ ts, nm t) ∧ d ≤ 24 ∧
  ∀ (v : V) (c : Ci) (G' H' : Hp), Ex G G' → At b G' H' → Rep G' v c.data → c.norm → c.depth ≤ d → c.size ≤ d + 1 → Q v H'
section
variable {P : Program} {w : World} {K : PySem.W.Frag} {mg : Str → Option Value} {base : Heap} {AA : Adr}
end
end Eyes

set_option Elab.async false
set_option linter.all false
set_option maxRecDepth 100000
/-! Partings: rows of numbers, for each case the least case alike to it. -/
namespace Eyes
open PySem PySem.Spec PyProof.Rows L2
def alone (n : Nat) : List Nat := (List.range n).map (· + 1)
def itm (p : List Nat) (x : Nat) : Nat := p.getD (x - 1) 0
def mrg1 (p : List Nat) (x y : Nat) : List Nat := p.map fun z => if z = max (itm p x) (itm p y) then min (itm p x) (itm p y) else z
def mrgs (p : List Nat) (l : List (Nat × Nat)) : List Nat := l.foldl (fun p xy => mrg1 p xy.1 xy.2) p
structure IsP (n : Nat) (p : List Nat) : Prop where
  len : p.length = n
  lo : ∀ x, 1 ≤ x → x ≤ n → 1 ≤ itm p x ∧ itm p x ≤ x
  rt : ∀ x, 1 ≤ x → x ≤ n → itm p (itm p x) = itm p x
theorem itm_get {p : List Nat} {x : Nat} (h1 : 1 ≤ x) (h2 : x ≤ p.length) : p[x - 1]? = some (itm p x) := by
  unfold itm
  rw [List.getD_eq_getElem?_getD, List.getElem?_eq_getElem (by omega)]
  rfl
theorem itm_alone {n x : Nat} (h1 : 1 ≤ x) (h2 : x ≤ n) : itm (alone n) x = x := by
  unfold itm alone
  rw [List.getD_eq_getElem?_getD, List.getElem?_map, List.getElem?_range (by omega)]
  show x - 1 + 1 = x
  omega
theorem alone_len {n : Nat} : (alone n).length = n := by
  unfold alone
  rw [List.length_map, List.length_range]
theorem isP_alone (n : Nat) : IsP n (alone n) := by
  refine ⟨alone_len, fun x h1 h2 => ?_, fun x h1 h2 => ?_⟩
  · rw [itm_alone h1 h2]
    omega
  · rw [itm_alone h1 h2, itm_alone h1 h2]
theorem itm_map {p : List Nat} {f : Nat → Nat} {x : Nat} (h1 : 1 ≤ x) (h2 : x ≤ p.length) : itm (p.map f) x = f (itm p x) := by
  have h := itm_get h1 h2
  unfold itm at h ⊢
  rw [List.getD_eq_getElem?_getD, List.getElem?_map, h]
  rfl
theorem itm_mrg1 {n : Nat} {p : List Nat} (h : IsP n p) (x y : Nat) {z : Nat} (h1 : 1 ≤ z) (h2 : z ≤ n) : itm (mrg1 p x y) z = if itm p z = max (itm p x) (itm p y) then min (itm p x) (itm p y) else itm p z :=
  itm_map h1 (by rw [h.len]; exact h2)
theorem isP_mrg1 {n : Nat} {p : List Nat} (h : IsP n p) {x y : Nat} (hx : 1 ≤ x ∧ x ≤ n) (hy : 1 ≤ y ∧ y ≤ n) : IsP n (mrg1 p x y) := by
  have ax := h.lo x hx.1 hx.2
  have ay := h.lo y hy.1 hy.2
  have rx := h.rt x hx.1 hx.2
  have ry := h.rt y hy.1 hy.2
  have key : ∀ z, 1 ≤ z → z ≤ n → itm (mrg1 p x y) z = if itm p z = max (itm p x) (itm p y) then min (itm p x) (itm p y) else itm p z := fun z h1 h2 => itm_mrg1 h x y h1 h2
  refine ⟨by unfold mrg1; rw [List.length_map]; exact h.len, fun z h1 h2 => ?_, fun z h1 h2 => ?_⟩
  · have az := h.lo z h1 h2
    rw [key z h1 h2]
    split
    · omega
    · exact az
  · have az := h.lo z h1 h2
    have rz := h.rt z h1 h2
    rw [key z h1 h2]
    by_cases g : itm p z = max (itm p x) (itm p y)
    · rw [if_pos g]
      have hm : itm p (min (itm p x) (itm p y)) = min (itm p x) (itm p y) := by
        rcases Nat.le_total (itm p x) (itm p y) with q | q
        · rw [Nat.min_eq_left q]
          exact rx
        · rw [Nat.min_eq_right q]
          exact ry
      rw [key _ (by omega) (by omega), hm]
      split
      · rfl
      · rfl
    · rw [if_neg g, key _ az.1 (by omega), rz, if_neg g]
theorem isP_mrgs {n : Nat} : ∀ {l : List (Nat × Nat)} {p : List Nat}, IsP n p → (∀ xy ∈ l, (1 ≤ xy.1 ∧ xy.1 ≤ n) ∧ 1 ≤ xy.2 ∧ xy.2 ≤ n) → IsP n (mrgs p l)
  | [], p, h, _ => h
  | xy :: r, p, h, hl => isP_mrgs (l := r) (isP_mrg1 h (hl xy List.mem_cons_self).1 (hl xy List.mem_cons_self).2) fun z hz => hl z (List.mem_cons_of_mem _ hz)
theorem mrgs_snoc (p : List Nat) (l : List (Nat × Nat)) (xy : Nat × Nat) : mrgs p (l ++ [xy]) = mrg1 (mrgs p l) xy.1 xy.2 := by
  unfold mrgs
  rw [List.foldl_append]
  rfl
/-! ### what is alike -/
def ali (p : List Nat) (x y : Nat) : Prop := itm p x = itm p y
/-! ### roads to the least cases -/
structure Lead (n : Nat) (p L : List Nat) : Prop where
  len : L.length = n + 1
  le : ∀ i, i ≤ n → L.getD i 0 ≤ i
  to : ∀ i, 1 ≤ i → i ≤ n → 1 ≤ L.getD i 0 ∧ itm p (L.getD i 0) = itm p i
  end_ : ∀ i, 1 ≤ i → i ≤ n → L.getD i 0 = i → itm p i = i
theorem getD_set {L : List Nat} {e v i : Nat} (h : e < L.length) : (L.set e v).getD i 0 = if i = e then v else L.getD i 0 := by
  rw [List.getD_eq_getElem?_getD, List.getElem?_set, List.getD_eq_getElem?_getD]
  by_cases g : i = e
  · subst g
    rw [if_pos rfl, if_pos rfl, if_pos h]
    rfl
  · rw [if_neg (fun z => g z.symm), if_neg g]
theorem lead_new (n : Nat) : Lead n (alone n) (List.range (n + 1)) := by
  have g : ∀ i, i ≤ n → (List.range (n + 1)).getD i 0 = i := fun i hi => by
    rw [List.getD_eq_getElem?_getD, List.getElem?_range (by omega)]
    rfl
  refine ⟨List.length_range, fun i hi => ?_, fun i h1 h2 => ?_, fun i h1 h2 _ => itm_alone h1 h2⟩
  · rw [g i hi]
    exact Nat.le_refl _
  · rw [g i h2]
    exact ⟨h1, rfl⟩
theorem Lead.half {n : Nat} {p L : List Nat} (h : Lead n p L) {e : Nat} (h1 : 1 ≤ e) (h2 : e ≤ n) : Lead n p (L.set e (L.getD (L.getD e 0) 0)) := by
  have a := h.to e h1 h2
  have b := h.le e h2
  have c := h.to (L.getD e 0) a.1 (by omega)
  have d := h.le (L.getD e 0) (by omega)
  have hl : e < L.length := by rw [h.len]; omega
  refine ⟨by rw [List.length_set]; exact h.len, fun i hi => ?_, fun i g1 g2 => ?_, fun i g1 g2 => ?_⟩
  · rw [getD_set hl]
    split
    · omega
    · exact h.le i hi
  · rw [getD_set hl]
    split
    · rename_i g
      subst g
      exact ⟨c.1, c.2.trans a.2⟩
    · exact h.to i g1 g2
  · rw [getD_set hl]
    split
    · rename_i g
      subst g
      intro z
      exact h.end_ i g1 g2 (by omega)
    · exact h.end_ i g1 g2
theorem Lead.join {n : Nat} {p L : List Nat} (h : Lead n p L) (hp : IsP n p) {x y r s : Nat} (hr : 1 ≤ r ∧ r ≤ n) (hs : 1 ≤ s ∧ s ≤ n) (er : itm p x = r) (es : itm p y = s) (rr : itm p r = r) (ss : itm p s = s) : Lead n (mrg1 p x y) (L.set (max r s) (min r s)) := by
  have hl : max r s < L.length := by rw [h.len]; omega
  have key : ∀ z, 1 ≤ z → z ≤ n → itm (mrg1 p x y) z = if itm p z = max r s then min r s else itm p z := fun z h1 h2 => by
    rw [itm_mrg1 hp x y h1 h2, er, es]
  have em : itm p (max r s) = max r s := by
    rcases Nat.le_total r s with q | q
    · rw [Nat.max_eq_right q]; exact ss
    · rw [Nat.max_eq_left q]; exact rr
  have en : itm p (min r s) = min r s := by
    rcases Nat.le_total r s with q | q
    · rw [Nat.min_eq_left q]; exact rr
    · rw [Nat.min_eq_right q]; exact ss
  refine ⟨by rw [List.length_set]; exact h.len, fun i hi => ?_, fun i g1 g2 => ?_, fun i g1 g2 => ?_⟩
  · rw [getD_set hl]
    split
    · omega
    · exact h.le i hi
  · rw [getD_set hl]
    split
    · rename_i g
      subst g
      refine ⟨by omega, ?_⟩
      rw [key _ (by omega) (by omega), key _ g1 g2, em, en, if_pos rfl]
      split <;> rfl
    · have a := h.to i g1 g2
      have b := h.le i g2
      refine ⟨a.1, ?_⟩
      rw [key _ a.1 (by omega), key _ g1 g2, a.2]
  · rw [getD_set hl]
    split
    · rename_i g
      subst g
      intro z
      rw [key _ g1 g2, em, if_pos rfl]
      exact z
    · intro z
      have e := h.end_ i g1 g2 z
      rename_i g
      rw [key _ g1 g2, e, if_neg g]
end Eyes

set_option Elab.async false
set_option linter.all false
set_option maxRecDepth 100000
set_option maxHeartbeats 4000000
namespace Eyes
open PySem PySem.Spec PyProof.Rows L2 Evl TL
/-! ### partings: rows of numbers -/
def nvs (p : List Nat) : List V := p.map fun x : Nat => V.int (x : Int)
theorem nvs_len {p : List Nat} : (nvs p).length = p.length := List.length_map ..
theorem nvs_get {p : List Nat} {i x : Nat} (h : p[i]? = some x) : (nvs p)[i]? = some (.int x) := by
  unfold nvs
  rw [List.getElem?_map, h]
  rfl
theorem nvs_set {p : List Nat} {i x : Nat} : (nvs p).set i (.int x) = nvs (p.set i x) := by
  unfold nvs
  rw [List.map_set]
theorem rgV_alone (n : Nat) : rgV 1 ((n : Int) + 1) = nvs (alone n) := by
  unfold rgV nvs alone
  rw [show ((n : Int) + 1 - 1).toNat = n by omega, List.map_map]
  refine List.map_congr_left fun i _ => ?_
  show V.int (1 + (i : Int)) = V.int ((i + 1 : Nat) : Int)
  rw [Int.natCast_add, Int.add_comm]
  rfl
theorem rgV_range (n : Nat) : rgV 0 ((n : Int) + 1) = nvs (List.range (n + 1)) := by
  unfold rgV nvs
  rw [show ((n : Int) + 1 - 0).toNat = n + 1 by omega]
  refine List.map_congr_left fun i _ => ?_
  rw [Int.zero_add]
theorem lead_get {n : Nat} {p L : List Nat} (h : Lead n p L) {e : Nat} (he : e ≤ n) : atI (nvs L) (e : Int) = some (.int (L.getD e 0 : Nat)) := by
  have hl : e < L.length := by rw [h.len]; omega
  refine atI_nat (nvs_get ?_)
  rw [List.getD_eq_getElem?_getD, List.getElem?_eq_getElem hl]
  rfl
def end5 : L2.St → Hp → Nat := fun σ _ => match σ with
  | [_, _, _, _, _, some (.int e), _] => e.toNat
  | _ => 0
theorem two_min {r s : Nat} {m : Int} (h1 : m ∈ [(r : Int), (s : Int)]) (h2 : ∀ y, y ∈ [(r : Int), (s : Int)] → m ≤ y) : m = ((min r s : Nat) : Int) := by
  have a := h2 r (by simp)
  have b := h2 s (by simp)
  rcases List.mem_cons.mp h1 with rfl | h1
  · omega
  · rcases List.mem_cons.mp h1 with rfl | h1
    · omega
    · cases h1
theorem two_max {r s : Nat} {m : Int} (h1 : m ∈ [(r : Int), (s : Int)]) (h2 : ∀ y, y ∈ [(r : Int), (s : Int)] → y ≤ m) : m = ((max r s : Nat) : Int) := by
  have a := h2 r (by simp)
  have b := h2 s (by simp)
  rcases List.mem_cons.mp h1 with rfl | h1
  · omega
  · rcases List.mem_cons.mp h1 with rfl | h1
    · omega
    · cases h1
def spApart : Sp := fun vs H Q _ => ∃ n : Nat, vs = [.int n] ∧ n ≤ 4096 ∧ ∀ p, H p = none → Q (.ref p) (upd H p (.tup (nvs (alone n))))
def inN (n : Nat) (l : List (Nat × Nat)) : Prop := ∀ xy ∈ l, (1 ≤ xy.1 ∧ xy.1 ≤ n) ∧ 1 ≤ xy.2 ∧ xy.2 ≤ n
def Prs (K : PySem.W.Frag) (H : Hp) (vs : List V) (l : List (Nat × Nat)) : Prop := vs.length = l.length ∧ ∀ (i : Nat) v, vs[i]? = some v → ∃ q xy, v = .ref q ∧ l[i]? = some xy ∧ SqT K H q [.int xy.1, .int xy.2]
theorem Prs.mono {K : PySem.W.Frag} {H H' : Hp} {vs : List V} {l : List (Nat × Nat)} (h : Prs K H vs l) (e : Ex H H') : Prs K H' vs l :=
  ⟨h.1, fun i v hv => by
    obtain ⟨q, xy, a, b, c⟩ := h.2 i v hv
    exact ⟨q, xy, a, b, ex_t e c⟩⟩
def spLinked (K : PySem.W.Frag) : Sp := fun vs H Q _ => ∃ (n : Nat) (a : Addr) (ws : List V) (l : List (Nat × Nat)), vs = [.int n, .ref a] ∧ n ≤ 4096 ∧ SqLT K H a ws ∧ Prs K H ws l ∧ inN n l ∧ ∀ p H', Ex H H' → H p = none → H' p = some (.tup (nvs (mrgs (alone n) l))) → Q (.ref p) H'
section
variable {P : Program} {w : World} {K : PySem.W.Frag} {mg : Str → Option Value} {base : Heap} {AA : Adr}
theorem ok_apart (T : Txt K mg AA) : Pr P w K mg base "apart" s_apart p_apart 1 spApart := by
  refine pr_mk T.f_apart sc_apart (fun vs H Q E h => ?_) (fun f cdv A outer s H vs Q E hr h => ?_)
  · obtain ⟨n, rfl, _⟩ := h
    rfl
  · obtain ⟨n, rfl, hn, q⟩ := h
    refine ⟨_, (pss_one (ps_ret (pe_tupRg rfl (by rfl) T.n_tuple (prg_2 (by rfl) T.n_range pe_int (pe_op op_add (pv 0) pe_int))))), ?_⟩
    have g := q
    simp only [← rgV_alone] at g
    exact ⟨_, rfl, n, 1, rfl, rfl, 1, _, rfl, rfl, RgOk.of_le (by omega) (by omega) (by omega) (by omega), g⟩
theorem ok_linked (T : Txt K mg AA) : Pr P w K mg base "linked" s_linked p_linked 1 (spLinked K) := by
  refine pr_mk T.f_linked sc_linked (fun vs H Q E h => ?_) (fun f cdv A outer s H vs Q E hr h => ?_)
  · obtain ⟨n, a, ws, l, rfl, _⟩ := h
    rfl
  · obtain ⟨n, a, ws, l, rfl, hn, ha, hps, hin, q⟩ := h
    refine ⟨_, (pss_cons (ps_set (i := 2) sc_linked.nd rfl (.inl rfl) (pe_listRg rfl (by rfl) T.n_list (prg_1 (by rfl) T.n_range (pe_op op_add (pv 0) pe_int))))
      (pss_cons (ps_for PassesOwn.never rfl (pi_or (pi_list (pv 1)) (pi_tup (pv 1))) (pg_name (i := 3) sc_linked.nd rfl (.inl rfl))
      (pss_cons (ps_set (i := 4) sc_linked.nd rfl (.inl rfl) (pe_lst pa_nil))
      (pss_cons (ps_for PassesOwn.never rfl (pi_tup (pv 3)) (pg_name (i := 5) sc_linked.nd rfl (.inl rfl))
      (pss_cons (ps_while PassesOwn.never (pt_cmpR op_ne (pe_ix (ix_listK (K := K) rfl) (pv 2) (pv 5) (fun _ _ => rfl)) (pv 5) (nomark _))
      (pss_cons (ps_asg (pe_ix (ix_listK (K := K) rfl) (pv 2) (pe_ix (ix_listK (K := K) rfl) (pv 2) (pv 5) (fun _ _ => rfl)) (fun _ _ => rfl)) (pg_sub (pv 2) (pv 5) set_list))
      (pss_one (ps_set (i := 5) sc_linked.nd rfl (.inl rfl) (pe_ix (ix_listK (K := K) rfl) (pv 2) (pv 5) (fun _ _ => rfl))))))
      (pss_one (ps_expr (pe_bm PySem.F.plainAttrs_list PySem.F.slot_list_append PySem.F.type_list_append mt_append (pv 4) (pa_cons (pv 5) pa_nil))))))
      (pss_one (ps_asg (pe_callB (cr_min rfl) (by rfl) T.n_min PyProof.Rows.boot_min (pa_cons (pv 4) pa_nil)) (pg_sub (pv 2) (pe_callB (cr_max rfl) (by rfl) T.n_max PyProof.Rows.boot_max (pa_cons (pv 4) pa_nil)) set_list))))))
      (pss_cons (ps_for PassesOwn.never rfl (pi_range2 (by rfl) T.n_range (pa_cons pe_int (pa_cons (pe_op op_add (pv 0) pe_int) pa_nil))) (pg_name (i := 6) sc_linked.nd rfl (.inl rfl))
      (pss_one (ps_asg (pe_ix (ix_listK (K := K) rfl) (pv 2) (pe_ix (ix_listK (K := K) rfl) (pv 2) (pv 6) (fun _ _ => rfl)) (fun _ _ => rfl)) (pg_sub (pv 2) (pv 6) set_list))))
      (pss_one (ps_ret (pe_callTy call_tuple_of (by rfl) T.n_tuple PyProof.Rows.boot_tuple (pa_cons (pe_slice sl_list (pv 2) (po_some pe_int) po_none) pa_nil))))))), ?_⟩
    -- lead = list(range(many + 1))
    refine ⟨_, rfl, n, 1, rfl, rfl, _, rfl, RgOk.of_le (by omega) (by omega) (by omega) (by omega), fun p np => ?_⟩
    rw [rgV_range]
    have e1 : Ex H (upd H p (.lst (nvs (List.range (n + 1))))) := Ex.new np
    generalize hH1 : upd H p _ = H1 at e1
    have hp1 : H1 p = some (.lst (nvs (List.range (n + 1)))) := by rw [← hH1]; exact upd_same
    -- for pair in pairs
    refine for_lt (j := 1) rfl ha e1 (fun i σ H' => ∃ (y3 y4 y5 y6 : Option V) (L : List Nat), σ = [some (.int n), some (.ref a), some (.ref p), y3, y4, y5, y6] ∧ Ex H H' ∧ H' p = some (.lst (nvs L)) ∧ Lead n (mrgs (alone n) (l.take i)) L) ⟨none, none, none, none, _, rfl, e1, hp1, lead_new n⟩ (fun i σ H' hp => ?_) (fun i x σ H' hx hp => ?_) (fun σ H' hp => ?_) (fun _ _ => rfl)
    · obtain ⟨_, _, _, _, _, rfl, e, _⟩ := hp
      exact e
    · obtain ⟨y3, y4, y5, y6, L, rfl, e2, hL, hld⟩ := hp
      obtain ⟨qa, ⟨x, y⟩, rfl, hxy, hq⟩ := hps.2 i x hx
      have hxyN := hin _ (List.mem_of_getElem? hxy)
      -- ends = []
      refine ⟨by show 0 ≤ sizeLine; decide, fun b nb => ?_⟩
      have hpb : p ≠ b := ne_of_none hL nb
      have nbH : H b = none := fresh_back e2 nb
      have hP : IsP n (mrgs (alone n) (l.take i)) := isP_mrgs (isP_alone n) fun z hz => hin z (List.mem_of_mem_take hz)
      rw [show l.take (i + 1) = l.take i ++ [(x, y)] by rw [List.take_add_one, hxy]; rfl]
      rw [mrgs_snoc]
      generalize hPP : mrgs (alone n) (l.take i) = P at hP hld
      -- for end in pair
      refine ⟨_, rfl, qa, rfl, ⟨_, ex_t (e2.trans (Ex.new nb)) hq⟩, ?_⟩
      refine for_tup (xs := [.int x, .int y]) (fun j σ H' => ∃ (y5 y6 : Option V) (L : List Nat), σ = [some (.int n), some (.ref a), some (.ref p), some (.ref qa), some (.ref b), y5, y6] ∧ Ex H H' ∧ H' p = some (.lst (nvs L)) ∧ H' b = some (.lst (nvs (([x, y].take j).map (itm P)))) ∧ Lead n P L) ⟨_, _, L, rfl, e2.trans (Ex.new nb), (upd_ne hpb).trans hL, upd_same, hld⟩ (fun j σ H' _ hp => ?_) (fun j v σ H' hv hp => ?_) (fun σ H' hp => ?_)
      · obtain ⟨_, _, _, rfl, e, _⟩ := hp
        exact ex_t e hq
      · obtain ⟨y5, y6, L, rfl, e3, hL, hb, hld⟩ := hp
        have hz : ∃ z : Nat, v = .int z ∧ [x, y][j]? = some z ∧ 1 ≤ z ∧ z ≤ n := by
          match j, hv with
          | 0, hv => exact ⟨x, (Option.some.inj hv).symm, rfl, hxyN.1⟩
          | 1, hv => exact ⟨y, (Option.some.inj hv).symm, rfl, hxyN.2⟩
        obtain ⟨z, rfl, hz, hz1, hz2⟩ := hz
        -- while lead[end] != end
        refine while_by (fun σ H' => ∃ (e : Nat) (L : List Nat), σ = [some (.int n), some (.ref a), some (.ref p), some (.ref qa), some (.ref b), some (.int e), y6] ∧ Ex H H' ∧ H' p = some (.lst (nvs L)) ∧ H' b = some (.lst (nvs (([x, y].take j).map (itm P)))) ∧ Lead n P L ∧ 1 ≤ e ∧ e ≤ n ∧ itm P e = itm P z) end5 ⟨z, L, rfl, e3, hL, hb, hld, hz1, hz2, rfl⟩ (fun σ H' hp => ?_) (fun σ H' Q Q' hQ h => ?_)
        · obtain ⟨e, L, rfl, e3, hL, hb, hld, he1, he2, hez⟩ := hp
          refine ⟨_, rfl, _, rfl, p, _, e, _, rfl, rfl, sq_of hL, lead_get hld he2, _, rfl, rfl, _, rfl, ite2 (fun hne => ?_) (fun hne => ?_)⟩
          · have hf := hld.to e he1 he2
            have hfe := hld.le e he2
            have hne : L.getD e 0 ≠ e := fun z => by
              rw [z] at hne
              simp at hne
            have hg := hld.to (L.getD e 0) hf.1 (by omega)
            have hgf := hld.le (L.getD e 0) (by omega)
            have hld2 := hld.half he1 he2
            have hel : e < L.length := by rw [hld.len]; omega
            have hge : (L.set e (L.getD (L.getD e 0) 0)).getD e 0 = L.getD (L.getD e 0) 0 := by rw [getD_set hel, if_pos rfl]
            refine ⟨_, rfl, _, rfl, _, rfl, p, _, e, _, rfl, rfl, sq_of hL, lead_get hld he2, p, _, _, _, rfl, rfl, sq_of hL, lead_get hld (by omega), _, rfl, _, rfl, p, _, _, e, rfl, rfl, hL, ixN_nat (by rw [nvs_len]; exact hel), ?_⟩
            rw [nvs_set]
            refine ⟨_, rfl, _, rfl, p, _, e, _, rfl, rfl, sq_of upd_same, lead_get hld2 he2, ?_⟩
            rw [hge]
            refine ⟨⟨L.getD (L.getD e 0) 0, _, rfl, e3.mut np, upd_same, (upd_ne hpb.symm).trans hb, hld2, hg.1, by omega, by rw [hg.2, hf.2, hez]⟩, ?_⟩
            show (((L.getD (L.getD e 0) 0 : Nat) : Int)).toNat < ((e : Nat) : Int).toNat
            omega
          · have he : L.getD e 0 = e := by
              have : decide (V.int ((L.getD e 0 : Nat) : Int) = V.int (e : Int)) = true := by
                cases h : decide (V.int ((L.getD e 0 : Nat) : Int) = V.int (e : Int)) with
                | true => rfl
                | false => exact absurd (by rw [h]; rfl) hne
              have := of_decide_eq_true this
              injection this with this
              omega
            have hz' : itm P z = e := by rw [← hez]; exact hld.end_ e he1 he2 he
            -- ends.append(end)
            refine ⟨_, rfl, .inl ⟨rfl, _, sq_of hb⟩, _, rfl, b, _, _, rfl, rfl, hb, ?_, _, _, L, rfl, e3.mut nbH, (upd_ne hpb).trans hL, ?_, hld⟩
            · rw [nvs_len, List.length_map, List.length_take]
              have : 2 < sizeLine := by decide
              have : [x, y].length = 2 := rfl
              omega
            · rw [List.take_add_one, hz, List.map_append, upd_same]
              show some (HO.lst _) = some (.lst (nvs (_ ++ [itm P z])))
              rw [hz']
              unfold nvs
              rw [List.map_append]
              rfl
        · obtain ⟨a1, a2, a3, a4, a5, a6, a7, a8, a9, a10, a11, a12, a13, a14, a15, a16, a17, a18⟩ := h
          exact ⟨a1, a2, a3, a4, a5, a6, a7, a8, a9, a10, a11, a12, a13, a14, a15, a16, a17, hQ _ _ a18⟩
      · -- lead[max(ends)] = min(ends)
        obtain ⟨y5, y6, L, rfl, e3, hL, hb, hld⟩ := hp
        have hb : H' b = some (.lst ([(itm P x : Int), (itm P y : Int)].map V.int)) := hb
        have ax := hP.lo x hxyN.1.1 hxyN.1.2
        have ay := hP.lo y hxyN.2.1 hxyN.2.2
        have hm : max (itm P x) (itm P y) < L.length := by rw [hld.len]; omega
        refine ⟨_, rfl, b, _, rfl, sq_of hb, Nat.zero_lt_succ _, fun m hm1 hm2 => ?_⟩
        rw [two_min hm1 hm2]
        refine ⟨_, rfl, _, rfl, b, _, rfl, sq_of hb, Nat.zero_lt_succ _, fun m2 hm3 hm4 => ?_⟩
        rw [two_max hm3 hm4]
        refine ⟨p, _, _, _, rfl, rfl, hL, ixN_nat (by rw [nvs_len]; exact hm), _, _, _, _, _, rfl, e3.mut np, ?_, hld.join hP ⟨ax.1, by omega⟩ ⟨ay.1, by omega⟩ rfl rfl (hP.rt x hxyN.1.1 hxyN.1.2) (hP.rt y hxyN.2.1 hxyN.2.2)⟩
        rw [nvs_set]
        exact upd_same
    · obtain ⟨y3, y4, y5, y6, L, rfl, e2, hL, hld⟩ := hp
      have hP : IsP n (mrgs (alone n) l) := isP_mrgs (isP_alone n) hin
      rw [List.take_of_length_le (by rw [hps.1]; exact Nat.le_refl _)] at hld
      generalize hPP : mrgs (alone n) l = P at hP hld q
      -- for case in range(1, many + 1)
      refine ⟨_, rfl, n, 1, rfl, rfl, 1, _, rfl, ⟨by omega, by omega, by omega, by omega⟩, ?_⟩
      rw [show ((n : Int) + 1 - 1).toNat = n by omega]
      refine for_it walk_range (fun j σ H' => ∃ (y6 : Option V) (L : List Nat), σ = [some (.int n), some (.ref a), some (.ref p), y3, y4, y5, y6] ∧ Ex H H' ∧ H' p = some (.lst (nvs L)) ∧ Lead n P L ∧ ∀ c, 1 ≤ c → c ≤ j → L.getD c 0 = itm P c) ⟨y6, L, rfl, e2, hL, hld, fun c h1 h2 => absurd h2 (by omega)⟩ (fun _ _ _ _ _ => trivial) (fun j x σ H' H2 hj hp hx => ?_) (fun σ H' hp => ?_)
      · obtain ⟨rfl, rfl⟩ := hx
        obtain ⟨y6, L, rfl, e3, hL, hld, hd⟩ := hp
        have hc : (1 : Int) + (j : Nat) = ((j + 1 : Nat) : Int) := by omega
        rw [show (fun i : Nat => V.int (1 + (i : Int))) j = V.int ((j + 1 : Nat) : Int) from congrArg V.int hc]
        have h1 : 1 ≤ j + 1 := by omega
        have h2 : j + 1 ≤ n := by omega
        have hf := hld.to _ h1 h2
        have hfe := hld.le _ h2
        have hel : j + 1 < L.length := by rw [hld.len]; omega
        have hv : L.getD (L.getD (j + 1) 0) 0 = itm P (j + 1) := by
          by_cases g : L.getD (j + 1) 0 = j + 1
          · rw [g, g]
            exact (hld.end_ _ h1 h2 g).symm
          · rw [hd _ hf.1 (by omega), hf.2]
        refine ⟨_, rfl, _, rfl, _, rfl, p, _, _, _, rfl, rfl, sq_of hL, lead_get hld h2, p, _, _, _, rfl, rfl, sq_of hL, lead_get hld (by omega), _, rfl, _, rfl, p, _, _, (j + 1), rfl, rfl, hL, ixN_nat (by rw [nvs_len]; exact hel), _, _, rfl, e3.mut np, ?_, hld.half h1 h2, fun c g1 g2 => ?_⟩
        · rw [nvs_set]
          exact upd_same
        · rw [getD_set hel]
          split
          · rename_i g
            rw [g]
            exact hv
          · exact hd c g1 (by omega)
      · obtain ⟨y6, L, rfl, e3, hL, hld, hd⟩ := hp
        have hLP : L.drop 1 = P := by
          refine List.ext_getElem? fun k => ?_
          rw [List.getElem?_drop]
          by_cases hk : k < n
          · have := hd (k + 1) (by omega) (by omega)
            have h := itm_get (p := P) (x := k + 1) (by omega) (by rw [hP.len]; omega)
            rw [Nat.add_sub_cancel] at h
            rw [h, ← this, List.getD_eq_getElem?_getD, Nat.add_comm 1 k, List.getElem?_eq_getElem (by rw [hld.len]; omega)]
            rfl
          · rw [List.getElem?_eq_none (by rw [hld.len]; omega), List.getElem?_eq_none (by rw [hP.len]; omega)]
        have hcut : cutV (nvs L) (some 1) none = nvs P := by
          rw [cut_from]
          unfold nvs
          rw [← List.map_drop, hLP]
        refine ⟨_, rfl, 1, rfl, p, _, rfl, sq_of hL, fun p2 np2 => ?_⟩
        rw [hcut]
        refine ⟨p2, _, rfl, .inl ⟨sq_of upd_same, fun p3 np3 => ?_⟩⟩
        exact q p3 _ ((e3.trans (Ex.new np2)).trans (Ex.new np3)) (fresh_back (e3.trans (Ex.new np2)) np3) upd_same
end
end Eyes

set_option Elab.async false
set_option linter.all false
set_option maxRecDepth 100000
set_option maxHeartbeats 4000000
namespace Eyes
open PySem PySem.Spec PyProof.Rows L2 Evl TL
/-! ### the law's own partings -/
theorem itm_at {p : List Nat} {x : Nat} (h1 : 1 ≤ x) (h2 : x ≤ p.length) : atI (nvs p) ((x : Int) - 1) = some (.int (itm p x : Nat)) := by
  rw [show (x : Int) - 1 = ((x - 1 : Nat) : Int) by omega]
  exact atI_nat (nvs_get (itm_get h1 h2))
def spMerged (K : PySem.W.Frag) : Sp := fun vs H Q _ => ∃ (n : Nat) (a b : Addr) (p : List Nat) (ws : List V) (l : List (Nat × Nat)), vs = [.ref a, .ref b] ∧ n ≤ 4096 ∧ SqT K H a (nvs p) ∧ IsP n p ∧ SqL K H b ws ∧ Prs K H ws l ∧ inN n l ∧ ∀ q H', Ex H H' → H q = none → H' q = some (.tup (nvs (mrgs p l))) → Q (.ref q) H'
theorem int_min {a b : Nat} : (if (b : Int) < a then (b : Int) else a) = ((min a b : Nat) : Int) := by
  split <;> omega
theorem int_max {a b : Nat} : (if (b : Int) > a then (b : Int) else a) = ((max a b : Nat) : Int) := by
  split <;> omega
section
variable {P : Program} {w : World} {K : PySem.W.Frag} {mg : Str → Option Value} {base : Heap} {AA : Adr}
theorem ok_law_alone (T : Txt K mg AA) : Pr P w K mg base "_law_alone" s_law_alone p_law_alone 1 spApart := by
  refine pr_mk T.f_law_alone sc_law_alone (fun vs H Q E h => ?_) (fun f cdv A outer s H vs Q E hr h => ?_)
  · obtain ⟨n, rfl, _⟩ := h
    rfl
  · obtain ⟨n, rfl, hn, q⟩ := h
    refine ⟨_, (pss_one (ps_ret (pe_tupRg rfl (by rfl) T.n_tuple (prg_2 (by rfl) T.n_range pe_int (pe_op op_add (pv 0) pe_int))))), ?_⟩
    have g := q
    simp only [← rgV_alone] at g
    exact ⟨_, rfl, n, 1, rfl, rfl, 1, _, rfl, rfl, RgOk.of_le (by omega) (by omega) (by omega) (by omega), g⟩
theorem ok_law_merged (T : Txt K mg AA) : Pr P w K mg base "_law_merged" s_law_merged p_law_merged 1 (spMerged K) := by
  refine pr_mk T.f_law_merged sc_law_merged (fun vs H Q E h => ?_) (fun f cdv A outer s H vs Q E hr h => ?_)
  · obtain ⟨n, a, b, p, ws, l, rfl, _⟩ := h
    rfl
  · obtain ⟨n, a, b, p, ws, l, rfl, hn, ha, hP, hb, hps, hin, q⟩ := h
    refine ⟨_, (pss_cons (ps_set (i := 2) sc_law_merged.nd rfl (.inl rfl) (pe_callTy call_list_of (by rfl) T.n_list PyProof.Rows.boot_list (pa_cons (pv 0) pa_nil)))
      (pss_cons (ps_for PassesOwn.never rfl (pi_list (pv 1)) (pg_tup (by rfl) (pgs_cons (pg_name (i := 3) sc_law_merged.nd rfl (.inl rfl)) (pgs_cons (pg_name (i := 4) sc_law_merged.nd rfl (.inl rfl)) pgs_nil)))
      (pss_cons (ps_asg (pe_tup (pa_cons (pe_callB (call_min2 rfl) (by rfl) T.n_min PyProof.Rows.boot_min (pa_cons (pe_ix (ix_listK (K := K) rfl) (pv 2) (pe_op op_sub (pv 3) pe_int) (fun _ _ => rfl)) (pa_cons (pe_ix (ix_listK (K := K) rfl) (pv 2) (pe_op op_sub (pv 4) pe_int) (fun _ _ => rfl)) pa_nil))) (pa_cons (pe_callB (call_max2 rfl) (by rfl) T.n_max PyProof.Rows.boot_max (pa_cons (pe_ix (ix_listK (K := K) rfl) (pv 2) (pe_op op_sub (pv 3) pe_int) (fun _ _ => rfl)) (pa_cons (pe_ix (ix_listK (K := K) rfl) (pv 2) (pe_op op_sub (pv 4) pe_int) (fun _ _ => rfl)) pa_nil))) pa_nil))) (pg_tup (by rfl) (pgs_cons (pg_name (i := 5) sc_law_merged.nd rfl (.inr rfl)) (pgs_cons (pg_name (i := 6) sc_law_merged.nd rfl (.inr rfl)) pgs_nil))))
      (pss_one (ps_if (pt_cmpR op_lt (pv 5) (pv 6) (nomark _))
      (pss_one (ps_setLc (i := 2) (own := [("_law_z", 7)]) (g := gName 7) (tt := tYes) rfl sc_law_merged.nd rfl rfl (sw_true rfl rfl rfl (by decide +kernel)) (pi_list (pv 2)) (blkOk_by (own := [("_law_z", 7)]) (N := n_law_merged) (sc := defScope s_law_merged) (by decide +kernel)) (fun _ _ _ _ _ => (pg_name (i := 7) sc_law_merged.nd rfl (.inl rfl))) (fun _ _ _ _ _ => pts_nil) (fun _ _ _ _ _ => (pe_ifExp (pt_cmpR op_eq (pv 7) (pv 6) (nomark _)) (pv 5) (pv 7)))))
      pss_nil))))
      (pss_one (ps_ret (pe_callTy call_tuple_of (by rfl) T.n_tuple PyProof.Rows.boot_tuple (pa_cons (pv 2) pa_nil)))))), ?_⟩
    -- found = list(rows)
    refine ⟨_, rfl, a, _, rfl, .inr ha, fun r nr => ?_⟩
    -- for x, y in couples
    refine ⟨_, rfl, b, rfl, ⟨ws, ex_l (Ex.new nr) hb⟩, ?_⟩
    refine for_list (xs := ws) (fun i σ H' => ∃ (r : Addr) (y3 y4 y5 y6 y7 : Option V), σ = [some (.ref a), some (.ref b), some (.ref r), y3, y4, y5, y6, y7] ∧ Ex H H' ∧ H' r = some (.lst (nvs (mrgs p (l.take i))))) ⟨r, none, none, none, none, none, rfl, Ex.new nr, upd_same⟩ (fun i σ H' _ hp => ?_) (fun i x σ H' hx hp => ?_) (fun σ H' hp => ?_)
    · obtain ⟨_, _, _, _, _, _, rfl, e, _⟩ := hp
      exact ex_l e hb
    · obtain ⟨r, y3, y4, y5, y6, y7, rfl, e, hr1⟩ := hp
      obtain ⟨qa, ⟨x, y⟩, rfl, hxy, hq⟩ := hps.2 i x hx
      have hxyN := hin _ (List.mem_of_getElem? hxy)
      have hPi : IsP n (mrgs p (l.take i)) := isP_mrgs hP fun z hz => hin z (List.mem_of_mem_take hz)
      rw [show l.take (i + 1) = l.take i ++ [(x, y)] by rw [List.take_add_one, hxy]; rfl]
      rw [mrgs_snoc]
      generalize hPP : mrgs p (l.take i) = P at hPi hr1
      have ax := hPi.lo x hxyN.1.1 hxyN.1.2
      have ay := hPi.lo y hxyN.2.1 hxyN.2.2
      have gx : atI (nvs P) ((x : Int) - 1) = some (.int (itm P x : Nat)) := itm_at hxyN.1.1 (by rw [hPi.len]; exact hxyN.1.2)
      have gy : atI (nvs P) ((y : Int) - 1) = some (.int (itm P y : Nat)) := itm_at hxyN.2.1 (by rw [hPi.len]; exact hxyN.2.2)
      refine ⟨qa, _, rfl, ex_t e hq, rfl, _, _, rfl, _, _, rfl, rfl, ?_⟩
      -- low, high = (min, max)
      refine ⟨_, rfl, _, rfl, x, 1, rfl, rfl, r, _, _, _, rfl, rfl, sq_of hr1, gx, _, rfl, _, rfl, y, 1, rfl, rfl, r, _, _, _, rfl, rfl, sq_of hr1, gy, _, _, rfl, ?_⟩
      rw [int_min]
      refine ⟨_, rfl, _, rfl, x, 1, rfl, rfl, r, _, _, _, rfl, rfl, sq_of hr1, gx, _, rfl, _, rfl, y, 1, rfl, rfl, r, _, _, _, rfl, rfl, sq_of hr1, gy, _, _, rfl, ?_⟩
      rw [int_max]
      refine ⟨by show 2 ≤ sizeLine; decide, fun t nt => ⟨t, _, rfl, st_of upd_same, rfl, _, _, rfl, _, _, rfl, rfl, ?_⟩⟩
      have e2 : Ex H (upd H' t (.tup [V.int ((min (itm P x) (itm P y) : Nat) : Int), V.int ((max (itm P x) (itm P y) : Nat) : Int)])) := e.trans (Ex.new nt)
      have hr2 : (upd H' t (.tup [V.int ((min (itm P x) (itm P y) : Nat) : Int), V.int ((max (itm P x) (itm P y) : Nat) : Int)])) r = some (.lst (nvs P)) := (Ex.new nt) _ _ hr1
      generalize upd H' t _ = Hc at e2 hr2
      -- if low < high
      refine ⟨_, rfl, _, rfl, _, _, rfl, rfl, _, rfl, ite2 (fun hlt => ?_) (fun hlt => ?_)⟩
      · refine ⟨_, rfl, r, rfl, ⟨_, sq_of hr2⟩, fun D hD => lc_it (walk_list (xs := nvs P)) (fun j H' => Hc D = none ∧ Ex Hc H' ∧ H' D = some (.lst (nvs ((P.take j).map fun z => if z = max (itm P x) (itm P y) then min (itm P x) (itm P y) else z)))) ⟨hD, Ex.new hD, upd_same⟩ (fun _ _ _ hp => ex_l hp.2.1 (sq_of hr2)) (fun j v H3 H4 hj hp hy => ?_) (fun H' hp => ?_)⟩
        · obtain ⟨rfl, hv⟩ := hy
          obtain ⟨h1, h2, h3⟩ := hp
          unfold nvs at hv
          rw [List.getElem?_map] at hv
          obtain ⟨z, hz, rfl⟩ := Option.map_eq_some_iff.mp hv
          have fin : ∀ u : Nat, u = (if z = max (itm P x) (itm P y) then min (itm P x) (itm P y) else z) → ∃ acc, H4 D = some (HO.lst acc) ∧ acc.length < sizeLine ∧ Hc D = none ∧ Ex Hc (upd H4 D (.lst (acc ++ [V.int (u : Int)]))) ∧ (upd H4 D (.lst (acc ++ [V.int (u : Int)]))) D = some (.lst (nvs ((P.take (j + 1)).map fun z => if z = max (itm P x) (itm P y) then min (itm P x) (itm P y) else z))) := fun u hu => by
            refine ⟨_, h3, ?_, h1, h2.mut h1, ?_⟩
            · rw [nvs_len, List.length_map, List.length_take, hPi.len]
              have : 4097 < sizeLine := by decide
              omega
            · rw [upd_same, List.take_add_one, hz, List.map_append, hu]
              unfold nvs
              rw [List.map_append]
              rfl
          refine ⟨rfl, _, rfl, _, rfl, rfl, _, rfl, ite2 (fun he => ?_) (fun he => ?_)⟩
          · refine ⟨_, rfl, fin _ ?_⟩
            have h5 : V.int (z : Int) = V.int ((max (itm P x) (itm P y) : Nat) : Int) := of_decide_eq_true he
            injection h5 with h5
            rw [if_pos (Int.ofNat.inj h5)]
          · refine ⟨_, rfl, fin _ ?_⟩
            rw [if_neg fun g => he (by rw [g]; exact decide_eq_true rfl)]
        · obtain ⟨h1, h2, h3⟩ := hp
          rw [List.take_of_length_le (by rw [nvs_len]; exact Nat.le_refl _)] at h3
          exact ⟨D, _, _, _, _, _, rfl, e2.trans h2, h3⟩
      · refine ⟨r, _, _, _, _, _, rfl, e2, ?_⟩
        rw [hr2]
        have hle : ¬ (min (itm P x) (itm P y) < max (itm P x) (itm P y)) := fun g => hlt (decide_eq_true (by omega))
        have hid : mrg1 P x y = P := by
          unfold mrg1
          refine (List.map_congr_left fun z _ => ?_).trans (List.map_id P)
          by_cases g : z = max (itm P x) (itm P y)
          · rw [if_pos g]
            show min (itm P x) (itm P y) = z
            omega
          · rw [if_neg g]
            rfl
        show _ = some (HO.lst (nvs (mrg1 P x y)))
        rw [hid]
    · obtain ⟨r, y3, y4, y5, y6, y7, rfl, e, hr1⟩ := hp
      rw [List.take_of_length_le (by rw [hps.1]; exact Nat.le_refl _)] at hr1
      refine ⟨_, rfl, r, _, rfl, .inl ⟨sq_of hr1, fun t nt => ?_⟩⟩
      exact q t _ (e.trans (Ex.new nt)) (fresh_back e nt) upd_same
end
end Eyes

set_option Elab.async false
set_option linter.all false
set_option maxRecDepth 100000
set_option maxHeartbeats 4000000
namespace Eyes
open PySem PySem.Spec PyProof.Rows L2 Evl TL
theorem dp_nats {K : PySem.W.Frag} {H : Hp} : ∀ l : List Nat, DpAll K H (l.map fun c => V.int ((c : Nat) : Int)) (l.map fun c => PyData.int ((c : Nat) : Int))
  | [] => .nil
  | _ :: l => .cons (.int _) (dp_nats l)
theorem shaped_nats (l : List Nat) : SeqAt.shaped (.list (l.map fun c => PyData.int ((c : Nat) : Int))) = true := by
  have h1 : PyData.canLay0 (.list (l.map fun c => PyData.int ((c : Nat) : Int))) = true := by
    show PyData.canLayAll0 _ = true
    induction l with
    | nil => rfl
    | cons c l ih =>
      show (PyData.canLay0 (.int _) && PyData.canLayAll0 (l.map fun c => PyData.int ((c : Nat) : Int))) = true
      rw [ih, Bool.and_true]
      rfl
  have h2 : PyData.depth (.list (l.map fun c => PyData.int ((c : Nat) : Int))) ≤ 64 := by
    have : PyData.depthAll (l.map fun c => PyData.int ((c : Nat) : Int)) = 0 := by
      clear h1
      induction l with
      | nil => rfl
      | cons c l ih =>
        show max (PyData.depth (.int _)) _ = 0
        rw [ih]
        rfl
    show PyData.depthAll _ + 1 ≤ 64
    rw [this]
    decide
  unfold SeqAt.shaped
  rw [h1, decide_eq_true h2]
  rfl
def Prh (H : Hp) (vs : List V) (l : List (Nat × Nat)) : Prop := vs.length = l.length ∧ ∀ (i : Nat) v, vs[i]? = some v → ∃ t xy, v = .ref t ∧ l[i]? = some xy ∧ H t = some (.tup [.int xy.1, .int xy.2])
theorem Prh.to {K : PySem.W.Frag} {H : Hp} {vs : List V} {l : List (Nat × Nat)} (h : Prh H vs l) : Prs K H vs l :=
  ⟨h.1, fun i v hv => by
    obtain ⟨t, xy, a, b, c⟩ := h.2 i v hv
    exact ⟨t, xy, a, b, st_of c⟩⟩
theorem Prh.ex {H H' : Hp} {vs : List V} {l : List (Nat × Nat)} (h : Prh H vs l) (e : Ex H H') : Prh H' vs l :=
  ⟨h.1, fun i v hv => by
    obtain ⟨t, xy, a, b, c⟩ := h.2 i v hv
    exact ⟨t, xy, a, b, e _ _ c⟩⟩
theorem Prh.put {H : Hp} {D : Addr} {xs : List V} {o : HO} {vs : List V} {l : List (Nat × Nat)} (h : Prh H vs l) (hD : H D = some (.lst xs)) : Prh (upd H D o) vs l :=
  ⟨h.1, fun i v hv => by
    obtain ⟨t, xy, a, b, c⟩ := h.2 i v hv
    refine ⟨t, xy, a, b, ?_⟩
    rw [upd_ne fun e => by rw [e, hD] at c; cases c]
    exact c⟩
theorem Prh.snoc {H : Hp} {vs : List V} {l : List (Nat × Nat)} (h : Prh H vs l) {t : Addr} {xy : Nat × Nat} (ht : H t = some (.tup [.int xy.1, .int xy.2])) : Prh H (vs ++ [.ref t]) (l ++ [xy]) :=
  ⟨by rw [List.length_append, List.length_append, h.1]; rfl, fun i v hv => by
    by_cases g : i < vs.length
    · rw [List.getElem?_append_left g] at hv
      obtain ⟨t, xy, a, b, c⟩ := h.2 i v hv
      refine ⟨t, xy, a, ?_, c⟩
      rw [List.getElem?_append_left (by rw [← h.1]; exact g)]
      exact b
    · rw [List.getElem?_append_right (by omega)] at hv
      have hi : i - vs.length = 0 := by
        cases hj : i - vs.length with
        | zero => rfl
        | succ j =>
          rw [hj] at hv
          cases hv
      rw [hi] at hv
      refine ⟨t, xy, (Option.some.inj hv).symm, ?_, ht⟩
      rw [List.getElem?_append_right (by rw [← h.1]; omega), ← h.1, hi]
      rfl⟩
def inn (p q : List Nat) : Bool := (List.range p.length).all fun k => decide (itm q (k + 1) = itm q (itm p (k + 1)))
def numd (n : Nat) (q : List Nat) : List (Nat × Nat) := (List.range n).map fun k => (k + 1, itm q (k + 1))
def spWithin (K : PySem.W.Frag) : Sp := fun vs H Q _ => ∃ (n : Nat) (a b : Addr) (p q : List Nat), vs = [.ref a, .ref b] ∧ n ≤ 4096 ∧ SqT K H a (nvs p) ∧ IsP n p ∧ SqT K H b (nvs q) ∧ IsP n q ∧ ∀ H', Ex H H' → Q (.bl (inn p q)) H'
def spJoinedL (K : PySem.W.Frag) : Sp := fun vs H Q _ => ∃ (n : Nat) (a b : Addr) (p q : List Nat), vs = [.ref a, .ref b] ∧ n ≤ 4096 ∧ SqT K H a (nvs p) ∧ IsP n p ∧ SqT K H b (nvs q) ∧ IsP n q ∧ ∀ r H', Ex H H' → H r = none → H' r = some (.tup (nvs (mrgs p (numd n q)))) → Q (.ref r) H'
theorem numd_in {n : Nat} {q : List Nat} (h : IsP n q) : inN n (numd n q) := fun xy hxy => by
  unfold numd at hxy
  obtain ⟨k, hk, rfl⟩ := List.mem_map.mp hxy
  have := List.mem_range.mp hk
  have g := h.lo (k + 1) (by omega) (by omega)
  exact ⟨⟨by omega, by omega⟩, g.1, by show itm q (k + 1) ≤ n; omega⟩
theorem all_take {n : Nat} {f : Nat → Bool} : ((List.range n).map f).all id = (List.range n).all f := by
  rw [List.all_map]
  rfl
section
variable {P : Program} {w : World} {K : PySem.W.Frag} {mg : Str → Option Value} {base : Heap} {AA : Adr}
end
end Eyes

set_option Elab.async false
set_option linter.all false
set_option maxRecDepth 100000
set_option maxHeartbeats 4000000
/-! enumerate(list), enumerate(.., start=k) in a for. -/
namespace Eyes
open PySem PySem.Spec PyProof.Rows L2
def IteL (K : PySem.W.Frag) (a : Addr) (k : Int) : It :=
  ⟨fun i H => ∃ (xs : List V) (x : V), SqL K H a xs ∧ xs[i]? = some x, fun i H v H' => ∃ T x, v = .ref T ∧ H T = none ∧ H' = upd H T (.tup [.int (k + (i : Nat)), x]) ∧ ∀ xs, SqL K H a xs → xs[i]? = some x, fun i H => ∃ xs : List V, SqL K H a xs ∧ xs.length ≤ i⟩
theorem turn_enumL {P : Program} {w : World} {K : PySem.W.Frag} {elts : List Expr} {kk : Nat} {tpos : Pos} (a e it : Addr) (k : Int) (nai : a ≠ it) :
    Turn P w K (.Tuple elts kk tpos) (IteL K a k) [e, it] e (fun i h => (∃ old, IsEnum h e it (k + (i : Nat)) old) ∧ h.IsListIter it a i ∧ e ≠ it ∧ a ≠ e) where
  mem := by simp
  obj := fun i h st b hb => by
    obtain ⟨⟨old, he⟩, ⟨o, ho, hc, hd⟩, _⟩ := st
    rcases (show b = e ∨ b = it by simpa using hb) with z | z
    · rw [z]
      exact ⟨_, he, fun v q => nomatch q⟩
    · rw [z]
      exact ⟨o, ho, fun v q => by rw [hd] at q; cases q⟩
  keep := fun i h h' st kp => by
    obtain ⟨⟨old, he⟩, hi, hne, hna⟩ := st
    exact ⟨⟨old, kp e (by simp) _ he⟩, hi.at fun o q => kp it (by simp) o q, hne, hna⟩
  item := by
    intro X hP hw hK hc i pins s σ H E I hf st hg
    subst hP hw hK
    obtain ⟨⟨old, he⟩, hit, hne, hna⟩ := st
    obtain ⟨xs, x, hq, hx⟩ := hg
    obtain ⟨its, rv, p, hz⟩ := I.list hq
    obtain ⟨u, hu, ru⟩ := rv.get hx
    have el : e < s.heap.objs.size := Heap.lt_size he
    have il : it < s.heap.objs.size := by
      obtain ⟨_, q, _⟩ := hit
      exact Heap.lt_size q
    have isT : s.heap.IsList a its.toArray := p.isList
    have lti : i < its.length := by
      rcases Nat.lt_or_ge i its.length with z | z
      · exact z
      · rw [List.getElem?_eq_none z] at hu
        cases hu
    have D := Draws.list (prog := X.prog) (w := X.w) (A := X.A.in1) (by have := I.ok.hd hc; simpa using this) it a nai its.toArray
    refine wpAny_pyNext_enum_itemC D he ⟨hit, isT⟩ (by simpa using lti) hne (by simp [hne, Ne.symm hna]) fun y h' tk hy ho hst hT hsz hk => ?_
    have ey : y = u := by
      have z : its.toArray[i]? = some y := hy
      rw [List.getElem?_toArray, hu] at z
      exact (Option.some.inj z).symm
    subst ey
    refine ⟨_, rfl, wpAny_letOwnedTupleGo_enum (s := { s with heap := h', toks := tk + 1 }) ho fun h2 he2 sb => ?_⟩
    have T2 : h2.get? s.heap.objs.size = some { cls := .type "tuple", data := .seq #[.int (k + (i : Nat)) tk, y] } := (sb.2 _ (Nat.ne_of_gt el)).trans hT
    have new : ObjOk X.prog X.w (upd H s.heap.objs.size (.tup [.int (k + (i : Nat)), x])) h2 s.heap.objs.size (.tup [.int (k + (i : Nat)), x]) :=
      ⟨by show 2 ≤ sizeLine; decide, [.int (k + (i : Nat)) tk, y], .cons ⟨_, rfl⟩ (.cons ru .nil), ⟨_, T2, rfl, _, rfl⟩⟩
    have I1 : Inv X pins σ (upd H s.heap.objs.size (.tup [.int (k + (i : Nat)), x])) { s with heap := h2, toks := tk + 1 } :=
      I.turnedNew (ch := [e, it]) (fun b ob hb q => (sb.2 b (fun z => hb (by simp [z]))).trans (hk b ob (fun z => hb (by simp [z])) (fun z => hb (by simp [z])) q)) hf (Nat.le_refl _) new
    refine ⟨.ref s.heap.objs.size, _, I1, rfl, ⟨_, x, rfl, I.hok.fresh (Nat.le_refl _), rfl, fun ys hy => by rw [I.list_inj hy hq]; exact hx⟩, ⟨⟨y, ?_⟩, hst.1.at fun o q => (sb.2 it (Ne.symm hne)).trans q, hne, hna⟩, fun b hb => ?_⟩
    · rw [show (k + ((i + 1 : Nat) : Int)) = k + (i : Nat) + 1 by omega]
      exact he2
    · have lt : b < s.heap.objs.size := by
        rcases (show b = e ∨ b = it by simpa using hb) with z | z
        · rw [z]; exact el
        · rw [z]; exact il
      rw [upd_ne (Nat.ne_of_lt lt)]
      exact (hf b hb).1
  done := by
    intro X hP hw hK hc i pins s σ H E I hf st hg
    subst hP hw hK
    obtain ⟨⟨old, he⟩, hit, hne, hna⟩ := st
    obtain ⟨xs, hq, hx⟩ := hg
    obtain ⟨its, rv, p, hz⟩ := I.list hq
    have isT : s.heap.IsList a its.toArray := p.isList
    obtain ⟨f0, f1, f2, f3, f4, f5⟩ := hf it (by simp)
    have hl := rv.length
    have hh : X.A.in1.in1.handled = none := by have := I.ok.hd hc; simpa using this
    -- what is behind the end: a draw of a tuple as long as the count
    have stop : ∀ (Q : Value → Shared → Prop) (E : Value → Shared → Prop), (∀ h' e, Heap.ExtBut it s.heap h' → (∃ o, h'.get? e = some o ∧ o.cls = .type "StopIteration") → E (.ref e) { s with heap := h' }) → wpAny (model X.prog X.w) X.A.in1 (Builtin.SmallTypes.nextOf (.ref it)) Q E s :=
      fun Q E hE => wpAny_nextOf_list_end (by have := I.ok.hd hc; simpa using this) hit isT (by simp; omega) hE
    have hT : s.TypeIs (.ref e) "enumerate" := ⟨_, he, rfl⟩
    unfold pyNext
    refine wpAny_bind (wpAny_attempt (wpAny_callSpecial?_slot (name := Str.ofString "__next__") hT PySem.F.slot_enumerate_next (wpAny_call_entry PySem.F.slot_enumerate_next hT PySem.F.entry_enumerate_next ?_ (PySem.F.args_enumerate_next_1 _))))
    show wpAny _ _ (field (.ref e) 2 >>= _) _ _ _
    refine wpAny_bind (wpAny_field he rfl (x := .ref it) rfl (wpAny_bind (stop _ _ fun h' x eb hx' => ?_)))
    obtain ⟨o, ho, hc'⟩ := hx'
    refine wpAny_bind (wpAny_isInstance (T := "StopIteration") (b := true) ⟨o, ho, hc'⟩ isSubtype_stop (wpAny_pure ?_))
    exact ⟨rfl, I.turned (t' := s.toks) (fun b o hb q => eb b o hb q) f0 f1 f3 f4 f5⟩
  self := fun A i s Q E st h => by
    obtain ⟨⟨_, he⟩, _⟩ := st
    exact wpAny_pyIter_enum he h
theorem walk_enumL {K : PySem.W.Frag} {a : Addr} {k : Int} {xs : List V} : Walk (IteL K a k) xs.length (fun H => SqL K H a xs) (YPair (fun i => some (.int (k + (i : Nat)))) (fun i => xs[i]?)) := by
  refine ⟨fun i H hi q => ⟨xs, xs[i], q, by simp [hi]⟩, fun H q => ⟨xs, q, Nat.le_refl _⟩, fun i H v H' hi q y => ?_⟩
  obtain ⟨T, x, h1, h2, h3, h4⟩ := y
  exact ⟨T, _, x, h1, h2, h3, rfl, h4 xs q⟩

theorem callWith_tyK {M : Model} {A : Around} {E : Value → Shared → Prop} {s : Shared} {env : Env} {pos : Pos} {T : String} {e : Expr} {rest : List Expr} {kws : List Keyword} {Q : Value → Shared → Prop} (hall : (backToKw pos (keywordEach kws env)).all (·.1.isSome) = true)
    (h : wpAny M A (spliced (backTo pos (starEach (e :: rest) env))) (fun vs s₁ => wpAny M A (evalAll ((backToKw pos (keywordEach kws env)).map (·.2)))
      (fun ks s₂ => wpAny M A (call (.type T) vs (((backToKw pos (keywordEach kws env)).filterMap (·.1)).zip ks)) Q E s₂) E s₁) E s)
    (hplain : ((backTo pos (starEach (e :: rest) env)).any (·.1) || (backToKw pos (keywordEach kws env)).any (·.1.isNone)) = false := by rfl) (he : starEach (e :: rest) env = (false, eval e env) :: starEach rest env := by rfl) :
    wpAny M A (callWith pos (.type T) [] (backTo pos (starEach (e :: rest) env)) (backToKw pos (keywordEach kws env))) Q E s :=
  PySem.W.callWith_of (P := fun _ => True) hplain (fun h _ => ⟨.machine, .inr (.inl rfl), fun A Q E s _ q => wpAny_pure q⟩)
    (evalArgs_kw2 hall (thn h fun vs s1 h1 => thn h1 fun ks s2 h2 => ⟨trivial, h2⟩) he)
def iEnumS (J : Addr → Int → It) (S : Hp → Addr → List V → Prop) (ta tk : TA) : TI := fun σ H R => ta σ H fun vs H1 => tk σ H1 fun ws H2 => ∃ a k xs, vs = [.ref a] ∧ ws = [.int k] ∧ -(2 ^ 63) ≤ k ∧ k < 2 ^ 63 ∧ S H2 a xs ∧ R (J a k) H2
theorem pi_enumLS {X : Cx} {e k : Expr} {ta tk : TA} {p pos tpos kpos : Pos} {elts : List Expr} {kk : Nat} (hg : Gl X "enumerate") (hm : X.mg "enumerate" = none) (ha : PA X [e] ta) (hk : PK X [⟨some "start", k, kpos⟩] tk)
    (hpl : ((backTo pos (starEach [e] X.env)).any (·.1) || (backToKw pos (keywordEach [⟨some "start", k, kpos⟩] X.env)).any (·.1.isNone)) = false := by rfl) (he : starEach [e] X.env = (false, eval e X.env) :: starEach [] X.env := by rfl) :
    PI X (.Tuple elts kk tpos) (.Call (.Name "enumerate" p) [e] [⟨some "start", k, kpos⟩] pos) (iEnumS (IteL X.K) (SqL X.K) ta tk) := by
  refine ⟨fun pins s σ H R I h => ?_⟩
  refine wpAny_Call_Name_kw (ld_blt I hg hm boot_enumerate (callWith_tyK rfl (thn (ha.run pos pins s σ H _ I h) fun us s0 ⟨vs, H0, I0, r0, q0⟩ => thn (hk.run pos pins s0 σ H0 _ I0 q0) fun ks s1 ⟨ws, H1, I1, r1, a, c, xs, ex, ew, c0, c1, hq, q⟩ => ?_) hpl he))
  subst ex ew
  obtain rfl := Vals.ref1 r0
  obtain ⟨u, rfl, ru⟩ := vals1 r1
  obtain ⟨t, rfl⟩ := ru
  obtain ⟨its, rv, tp, hz⟩ := I1.list hq
  have isT : s1.heap.IsList a its.toArray := tp.isList
  have al : a < s1.heap.objs.size := by
    obtain ⟨o, e1, _⟩ := isT
    exact Heap.lt_size e1
  refine enum_begins_start (begins_list a its.toArray) isT c0 c1 fun h' he hit hsz hk => wpAny_pyIter_enum he ?_
  have I2 : Inv X pins σ H1 { s1 with heap := h' } := I1.kept (t' := s1.toks) hk
  refine ⟨s1.heap.objs.size + 1, [s1.heap.objs.size + 1, s1.heap.objs.size], _, _, H1, rfl, I2, turn_enumL a (s1.heap.objs.size + 1) s1.heap.objs.size c (Nat.ne_of_lt al), ⟨⟨.none, by simpa using he⟩, ⟨_, hit, rfl, rfl⟩, Nat.succ_ne_self _, Nat.ne_of_lt (Nat.lt_succ_of_lt al)⟩, fun b hb => ?_, q⟩
  have hle : s1.heap.objs.size ≤ b := by
    rcases (show b = s1.heap.objs.size + 1 ∨ b = s1.heap.objs.size by simpa using hb) with z | z
    · rw [z]; exact Nat.le_add_right _ _
    · rw [z]; exact Nat.le_refl _
  exact I1.fpOk hle (I1.hok.fresh hle)
theorem pi_enumLSK {X : Cx} {K : PySem.W.Frag} {e k : Expr} {ta tk : TA} {p pos tpos kpos : Pos} {elts : List Expr} {kk : Nat} (hK : X.K = K) (hg : Gl X "enumerate") (hm : X.mg "enumerate" = none) (ha : PA X [e] ta) (hk : PK X [⟨some "start", k, kpos⟩] tk)
    (hpl : ((backTo pos (starEach [e] X.env)).any (·.1) || (backToKw pos (keywordEach [⟨some "start", k, kpos⟩] X.env)).any (·.1.isNone)) = false := by rfl) (he : starEach [e] X.env = (false, eval e X.env) :: starEach [] X.env := by rfl) :
    PI X (.Tuple elts kk tpos) (.Call (.Name "enumerate" p) [e] [⟨some "start", k, kpos⟩] pos) (iEnumS (IteL K) (SqL K) ta tk) := hK ▸ pi_enumLS hg hm ha hk hpl he
end Eyes

set_option Elab.async false
set_option linter.all false
set_option maxRecDepth 100000
set_option maxHeartbeats 4000000
namespace Eyes
open PySem PySem.Spec PyProof.Rows L2 Evl TL
def less (n : Nat) (p : List Nat) : List (Nat × Nat) := (numd n p).filter fun xy => decide (xy.2 < xy.1)
def Pts (K : PySem.W.Frag) (n : Nat) (H : Hp) (us : List V) (ps : List (List Nat)) : Prop := us.length = ps.length ∧ ∀ (i : Nat) u, us[i]? = some u → ∃ q p, u = .ref q ∧ ps[i]? = some p ∧ SqT K H q (nvs p) ∧ IsP n p
def spJoined (K : PySem.W.Frag) : Sp := fun vs H Q _ => ∃ (n : Nat) (a : Addr) (us : List V) (ps : List (List Nat)), vs = [.ref a] ∧ n ≤ 4096 ∧ ps.length ≤ 200 ∧ 0 < ps.length ∧ SqL K H a us ∧ Pts K n H us ps ∧ ∀ r H', Ex H H' → H r = none → H' r = some (.tup (nvs (mrgs (alone n) (ps.flatMap (less n))))) → Q (.ref r) H'
section
variable {P : Program} {w : World} {K : PySem.W.Frag} {mg : Str → Option Value} {base : Heap} {AA : Adr}
end
end Eyes

set_option Elab.async false
set_option linter.all false
set_option maxRecDepth 100000
set_option maxHeartbeats 4000000
namespace Eyes
open PySem PySem.Spec PyProof.Rows L2 Evl TL
def numD (d : PyData) (a b : Int) : Bool := match d with
  | .int i => decide (a ≤ i) && decide (i ≤ b)
  | _ => false
def spNumber (K : PySem.W.Frag) : Sp := fun vs H Q _ => ∃ (v : V) (d : PyData) (a b : Int), vs = [v, .int a, .int b] ∧ Rep H v d ∧ Q (.bl (numD d a b)) H
section
variable {P : Program} {w : World} {K : PySem.W.Frag} {mg : Str → Option Value} {base : Heap} {AA : Adr}
theorem ok_is_number (T : Txt K mg AA) : Pr P w K mg base "is_number" s_is_number p_is_number 1 (spNumber K) := by
  refine pr_mk T.f_is_number sc_is_number (fun vs H Q E h => ?_) (fun f cdv A outer s H vs Q E hr h => ?_)
  · obtain ⟨v, d, a, b, rfl, _⟩ := h
    rfl
  · obtain ⟨v, d, a, b, rfl, hv, q⟩ := h
    refine ⟨_, (pss_cons (ps_if (PW.pt (pw_or (pt_val (pe_callB (call_isiK (K := K) rfl) (by rfl) T.n_isinstance PyProof.Rows.boot_isinstance (pa_cons (pv 0) (pa_cons (pe_bltn (v := .ty "bool") (by rfl) T.n_bool (by decide +kernel) rfl) pa_nil)))) (pw_or1 (pt_not (pt_val (pe_callB (call_isiK (K := K) rfl) (by rfl) T.n_isinstance PyProof.Rows.boot_isinstance (pa_cons (pv 0) (pa_cons (pe_bltn (v := .ty "int") (by rfl) T.n_int (by decide +kernel) rfl) pa_nil))))))))
      (pss_one (ps_ret pe_bl))
      pss_nil)
      (pss_one (ps_ret (pe_chain op_le op_le (pv 1) (pv 0) (pv 2))))), ?_⟩
    have no : ∀ kb ki : Bool, PySem.W.kitOne K (.type (tyD d)) (.type "bool") = some kb → PySem.W.kitOne K (.type (tyD d)) (.type "int") = some ki → (kb = true ∨ ki = false) → numD d a b = false → (tSeq
    (tIfS
      (tOr (tB (tCB (rIsi K) (tCons (tVar 0) (tCons (tC (V.ty "bool")) tNil))))
        (tNot (tB (tCB (rIsi K) (tCons (tVar 0) (tCons (tC (V.ty "int")) tNil))))))
      (tRet (tC (V.bl false))) tNext)
    (tRet
      (tChain (rI0 fun i j => V.bl (decide (i ≤ j))) (rI0 fun i j => V.bl (decide (i ≤ j))) (tVar 1) (tVar 0) (tVar 2)))
    { nx := fun x H' => Q V.non H', rt := Q } (L2.start n_is_number [v, V.int a, V.int b]) H) := fun kb ki h1 h2 h3 h4 => by
      rw [h4] at q
      cases kb with
      | true => exact ⟨_, rfl, v, .ty "bool", _, _, true, rfl, .ty _, hv.ty, h1, _, rfl, iteT (iteT q)⟩
      | false =>
        cases ki with
        | true => rcases h3 with h3 | h3 <;> cases h3
        | false => exact ⟨_, rfl, v, .ty "bool", _, _, false, rfl, .ty _, hv.ty, h1, _, rfl, iteF ⟨_, rfl, v, .ty "int", _, _, false, rfl, .ty _, hv.ty, h2, _, rfl, iteT q⟩⟩
    cases d with
    | int i =>
      cases hv
      refine ⟨_, rfl, .int i, .ty "bool", _, _, false, rfl, .ty _, (Rep.int (H := H) i).ty, kit_ty (a := "int") (by decide +kernel), _, rfl, iteF ⟨_, rfl, .int i, .ty "int", _, _, true, rfl, .ty _, (Rep.int (H := H) i).ty, kit_ty (a := "int") (by decide +kernel), _, rfl, iteF ?_⟩⟩
      have q : Q (V.bl (decide (a ≤ i) && decide (i ≤ b))) H := q
      refine ⟨_, rfl, _, rfl, a, i, rfl, rfl, _, rfl, ite2 (fun h1 => ?_) (fun h1 => ?_)⟩
      · rw [h1] at q
        exact ⟨_, rfl, i, b, rfl, rfl, q⟩
      · rw [show decide (a ≤ i) = false by cases e : decide (a ≤ i) with | true => exact absurd e h1 | false => rfl] at q
        exact q
    | none => exact no false false (kit_ty (a := "NoneType") (by decide +kernel)) (kit_ty (a := "NoneType") (by decide +kernel)) (.inr rfl) rfl
    | bool z => exact no true true (kit_ty (a := "bool") (by decide +kernel)) (kit_ty (a := "bool") (by decide +kernel)) (.inl rfl) rfl
    | str z => exact no false false (kit_ty (a := "str") (by decide +kernel)) (kit_ty (a := "str") (by decide +kernel)) (.inr rfl) rfl
    | list z => exact no false false (kit_ty (a := "list") (by decide +kernel)) (kit_ty (a := "list") (by decide +kernel)) (.inr rfl) rfl
    | tuple z => exact no false false (kit_ty (a := "tuple") (by decide +kernel)) (kit_ty (a := "tuple") (by decide +kernel)) (.inr rfl) rfl
    | dict z => exact no false false (kit_ty (a := "dict") (by decide +kernel)) (kit_ty (a := "dict") (by decide +kernel)) (.inr rfl) rfl
def itemD (ds : List PyData) (k : Nat) : Bool := match ds[k]? with
  | some d => numD d 1 ((k : Int) + 1) && (match d with
    | .int i => (match ds[(i - 1).toNat]? with
      | some e => PyData.eqv e (.int i)
      | none => false)
    | _ => false)
  | none => false
theorem itemD_no {ds : List PyData} {k : Nat} {d : PyData} (h : ds[k]? = some d) (h2 : numD d 1 ((k : Int) + 1) = false) : itemD ds k = false := by
  unfold itemD
  rw [h]
  show (numD d 1 ((k : Int) + 1) && _) = false
  rw [h2, Bool.false_and]
theorem itemD_int {ds : List PyData} {k : Nat} {i : Int} {e : PyData} (h : ds[k]? = some (.int i)) (h2 : numD (.int i) 1 ((k : Int) + 1) = true) (h3 : ds[(i - 1).toNat]? = some e) : itemD ds k = PyData.eqv e (.int i) := by
  unfold itemD
  rw [h]
  show (numD (.int i) 1 ((k : Int) + 1) && (match ds[(i - 1).toNat]? with
      | some e => PyData.eqv e (.int i)
      | none => false)) = _
  rw [h2, Bool.true_and, h3]
def spItem (K : PySem.W.Frag) : Sp := fun vs H Q _ => ∃ (a : Addr) (xs : List V) (ds : List PyData) (k : Nat), vs = [.ref a, .int k] ∧ SqT K H a xs ∧ Reps H xs ds ∧ (∀ d ∈ ds, SeqAt.shaped d = true) ∧ k < xs.length ∧ Q (.bl (itemD ds k)) H
theorem ok_is_item (T : Txt K mg AA) : Pr P w K mg base "is_item" s_is_item p_is_item 2 (spItem K) := by
  refine pr_mk T.f_is_item sc_is_item (fun vs H Q E h => ?_) (fun f cdv A outer s H vs Q E hr h => ?_)
  · obtain ⟨a, xs, ds, k, rfl, _⟩ := h
    rfl
  · obtain ⟨a, xs, ds, k, rfl, ha, hR, hsh, hk, q⟩ := h
    refine ⟨_, (pss_one (ps_ret (pe_and (pcall (ok_is_number T) hr (pa_cons (pe_ix (ix_tupK (K := K) rfl) (pv 0) (pv 1) (fun _ _ => rfl)) (pa_cons pe_int (pa_cons (pe_op op_add (pv 1) pe_int) pa_nil)))) (pe_one (pe_cmpR (op_eqD hr.units) (pe_ix (ix_tupK (K := K) rfl) (pv 0) (pe_op op_sub (pe_ix (ix_tupK (K := K) rfl) (pv 0) (pv 1) (fun _ _ => rfl)) pe_int) (fun _ _ => rfl)) (pe_ix (ix_tupK (K := K) rfl) (pv 0) (pv 1) (fun _ _ => rfl)) (nomark _)))))), ?_⟩
    obtain ⟨d, hd, hv⟩ := hR.get (List.getElem?_eq_getElem hk)
    have hx : xs[k]? = some xs[k] := List.getElem?_eq_getElem hk
    generalize xs[k] = v at hv hx
    refine ⟨_, rfl, _, rfl, a, _, _, v, rfl, rfl, ha, atI_nat hx, _, rfl, k, 1, rfl, rfl, v, d, 1, (k : Int) + 1, rfl, hv, ?_⟩
    cases hn : numD d 1 ((k : Int) + 1) with
    | false =>
      rw [itemD_no hd hn] at q
      exact ⟨_, rfl, iteF q⟩
    | true =>
      cases d with
      | int i =>
        cases hv
        have hi : 1 ≤ i ∧ i ≤ (k : Int) + 1 := by
          have h : (decide (1 ≤ i) && decide (i ≤ (k : Int) + 1)) = true := hn
          rw [Bool.and_eq_true] at h
          exact ⟨of_decide_eq_true h.1, of_decide_eq_true h.2⟩
        have hj : (i - 1).toNat < xs.length := by omega
        obtain ⟨e, he, hve⟩ := hR.get (List.getElem?_eq_getElem hj)
        have hxe : xs[(i - 1).toNat]? = some xs[(i - 1).toNat] := List.getElem?_eq_getElem hj
        generalize xs[(i - 1).toNat] = v2 at hve hxe
        rw [itemD_int hd hn he] at q
        refine ⟨_, rfl, iteT ?_⟩
        refine ⟨_, rfl, _, rfl, _, rfl, a, _, _, .int i, rfl, rfl, ha, atI_nat hx, i, 1, rfl, rfl, a, _, _, v2, rfl, rfl, ha, at_of' (by omega) hxe, _, rfl, _, rfl, a, _, _, .int i, rfl, rfl, ha, atI_nat hx, ?_⟩
        exact ⟨e, .int i, hve.dp, .int i, hsh e (List.mem_of_getElem? he), rfl, q⟩
      | _ => cases hn
def partD (d : PyData) : Bool := match d with
  | .tuple ds => decide (ds ≠ []) && (List.range ds.length).all fun k => itemD ds k
  | _ => false
def spIsPart (K : PySem.W.Frag) : Sp := fun vs H Q _ => ∃ (v : V) (d : PyData), vs = [v] ∧ Rep H v d ∧ (∀ ds, d = .tuple ds → ds.length ≤ 4096 ∧ ∀ e ∈ ds, SeqAt.shaped e = true) ∧ ∀ H', Ex H H' → Q (.bl (partD d)) H'
theorem ok_is_parting (T : Txt K mg AA) : Pr P w K mg base "is_parting" s_is_parting p_is_parting 3 (spIsPart K) := by
  refine pr_mk T.f_is_parting sc_is_parting (fun vs H Q E h => ?_) (fun f cdv A outer s H vs Q E hr h => ?_)
  · obtain ⟨v, d, rfl, _⟩ := h
    rfl
  · obtain ⟨v, d, rfl, hv, hd, q⟩ := h
    refine ⟨_, (pss_cons (ps_if (PW.pt (pw_or (pt_not (pt_val (pe_callB (call_isiK (K := K) rfl) (by rfl) T.n_isinstance PyProof.Rows.boot_isinstance (pa_cons (pv 0) (pa_cons (pe_bltn (v := .ty "tuple") (by rfl) T.n_tuple (by decide +kernel) rfl) pa_nil))))) (pw_or1 (pt_cmpR op_eq (pe_callB (call_len_seqK (K := K) rfl) (by rfl) T.n_len PySem.boot_len (pa_cons (pv 0) pa_nil)) pe_int (nomark _)))))
      (pss_one (ps_ret pe_bl))
      pss_nil)
      (pss_one (ps_ret (pe_callB (cr_all rfl) (by rfl) T.n_all PyProof.Rows.boot_all (pa_cons (pe_lc (own := [("at", 1)]) (g := gName 1) (tt := tYes) rfl sc_is_parting.nd (pi_range1 (by rfl) T.n_range (pa_cons (pe_callB (call_len_seqK (K := K) rfl) (by rfl) T.n_len PySem.boot_len (pa_cons (pv 0) pa_nil)) pa_nil)) (blkOk_by (own := [("at", 1)]) (N := n_is_parting) (sc := defScope s_is_parting) (by decide +kernel)) (fun _ _ _ _ _ => (pg_name (i := 1) sc_is_parting.nd rfl (.inl rfl))) (fun _ _ _ _ _ => pts_nil) (fun _ _ _ _ _ => (pcall (ok_is_item T) hr (pa_cons (pv 0) (pa_cons (pv 1) pa_nil))))) pa_nil))))), ?_⟩
    have no : PySem.W.kitOne K (.type (tyD d)) (.type "tuple") = some false → partD d = false → (tSeq
    (tIfS
      (tOr (tNot (tB (tCB (rIsi K) (tCons (tVar 0) (tCons (tC (V.ty "tuple")) tNil)))))
        (tTest
          (tOp rEq
            (tCB (fun xs H Q => ∃ p ys, xs = [V.ref p] ∧ (SqL K H p ys ∨ SqT K H p ys) ∧ Q (V.int ↑ys.length) H)
              (tCons (tVar 0) tNil))
            (tC (V.int 0)))))
      (tRet (tC (V.bl false))) tNext)
    (tRet
      (tCB
        (rAll K)
        (tCons
          (tLc
            (iRng1
              (tCons
                (tCB (fun xs H Q => ∃ p ys, xs = [V.ref p] ∧ (SqL K H p ys ∨ SqT K H p ys) ∧ Q (V.int ↑ys.length) H)
                  (tCons (tVar 0) tNil))
                tNil))
            (gName 1) tYes (tCall (spItem K) [] (fun x x_1 x_2 => False) (tCons (tVar 0) (tCons (tVar 1) tNil)))
            (List.map (fun x => x.snd) [(Str.ofString "at", 1)]))
          tNil)))
    { nx := fun x H' => Q V.non H', rt := Q } (L2.start n_is_parting [v]) H) := fun h1 h2 => by
      have q := q H (Ex.refl _)
      rw [h2] at q
      exact ⟨_, rfl, v, .ty "tuple", _, _, false, rfl, .ty _, hv.ty, h1, _, rfl, iteT (iteT q)⟩
    cases d with
    | tuple ds =>
      obtain ⟨hl, hsh⟩ := hd ds rfl
      cases hv with
      | @tup a xs _ hx hR =>
      have hlen := hR.length
      refine ⟨_, rfl, .ref a, .ty "tuple", _, _, true, rfl, .ty _, (Rep.tup hx hR).ty, kit_ty (a := "tuple") (by decide +kernel), _, rfl, iteF ?_⟩
      refine ⟨_, rfl, a, xs, rfl, .inr (st_of hx), rfl, _, rfl, ite2 (fun h0 => ?_) (fun h0 => ?_)⟩
      · have q := q H (Ex.refl _)
        have h1 : V.int (xs.length : Int) = V.int 0 := of_decide_eq_true h0
        injection h1 with h1
        have h2 : ds = [] := List.length_eq_zero_iff.mp (by omega)
        rw [h2] at q
        exact q
      · have h2 : ds ≠ [] := fun z => h0 (by
          rw [z] at hlen
          rw [hlen]
          rfl)
        refine ⟨_, rfl, a, xs, rfl, .inr (st_of hx), _, rfl, by omega, by omega, ?_⟩
        rw [show ((xs.length : Nat) : Int).toNat = xs.length by omega]
        refine fun D hD => lc_it walk_range (fun i H' => H D = none ∧ Ex H H' ∧ H' D = some (.lst (((List.range i).map fun k => itemD ds k).map V.bl))) ⟨hD, Ex.new hD, upd_same⟩ (fun _ _ _ _ => trivial) (fun i v H3 H4 hi hp hy => ?_) (fun H' hp => ?_)
        · obtain ⟨h1, h4, h3⟩ := hp
          obtain ⟨rfl, rfl⟩ := hy
          refine ⟨rfl, _, rfl, _, rfl, a, xs, ds, i, ?_, st_of (h4 _ _ hx), hR.mono h4, hsh, hi, _, h3, ?_, h1, h4.mut h1, ?_⟩
          · show [V.ref a, V.int (0 + (i : Int))] ++ [] = _
            rw [Int.zero_add]
            rfl
          · rw [List.length_map, List.length_map, List.length_range]
            have : 4097 < sizeLine := by decide
            omega
          · rw [upd_same, List.range_succ, List.map_append, List.map_append]
            rfl
        · obtain ⟨h1, h4, h3⟩ := hp
          refine ⟨D, _, rfl, sq_of h3, ?_⟩
          rw [all_take]
          have q := q _ h4
          rw [show partD (.tuple ds) = (List.range xs.length).all fun k => itemD ds k by
            show (decide (ds ≠ []) && _) = _
            rw [decide_eq_true h2, Bool.true_and, hlen]] at q
          exact q
    | none => exact no (kit_ty (a := "NoneType") (by decide +kernel)) rfl
    | bool z => exact no (kit_ty (a := "bool") (by decide +kernel)) rfl
    | int z => exact no (kit_ty (a := "int") (by decide +kernel)) rfl
    | str z => exact no (kit_ty (a := "str") (by decide +kernel)) rfl
    | list z => exact no (kit_ty (a := "list") (by decide +kernel)) rfl
    | dict z => exact no (kit_ty (a := "dict") (by decide +kernel)) rfl
end
end Eyes

set_option Elab.async false
set_option linter.all false
set_option maxRecDepth 100000
set_option maxHeartbeats 4000000
/-! d.setdefault(key, v), the key a tuple; {} of either kind. -/
namespace Eyes
open PySem PySem.Spec PyProof.Rows L2
section
variable {X : Cx} {pins : List (Addr × Obj)} {σ : L2.St} {H : Hp} {s : Shared} {a b : Addr} {r : Value} {d : V} {k : List L2.Key} {A : Around} {E : Value → Shared → Prop}
theorem d_setdT {kvs : List (List L2.Key × V)} {Q : Value → Shared → Prop} (hu : A.units + 1 < cLine) (I : Inv X pins σ H s) (e : H a = some (.dT kvs)) (eb : H b = some (.tup (k.map kV))) (rd : RelV d r) (hl : kvs.length < sizeLine)
    (h1 : ∀ v, valV kvs k = some v → ∀ (w' : Value) (s' : Shared), Inv X pins σ H s' → RelV v w' → Q w' s') (h2 : valV kvs k = none → ∀ (w' : Value) (s' : Shared), Inv X pins σ (upd H a (.dT (putK kvs k d))) s' → RelV d w' → Q w' s') :
    wpAny (model X.prog X.w) A (call (.builtin "dict.setdefault") [.ref a, .ref b, r]) Q E s := by
  obtain ⟨z, hd, xs, rel, dd⟩ := dt_of I.hok e
  have hz : xs.length ≤ sizeLine := by rw [← Paired.length rel]; exact z
  refine call_setdefault_heap (knd := tupleKind (mixKind X.prog X.w)) (tupleKind_room_in1 hu) (key_of I.hok eb) hd dd (fun p hp => ?_) (fun hn h' dd' hs => ?_) hz
  · have q := rel.val k
    rw [hp] at q
    cases q0 : valV kvs k with
    | none =>
      rw [q0] at q
      exact (show False from q).elim
    | some v0 =>
      rw [q0] at q
      exact h1 v0 q0 _ _ (I.kept (t' := _) fun _ _ z => z) q
  · have q := rel.val k
    rw [hn] at q
    cases q0 : valV kvs k with
    | some v0 =>
      rw [q0] at q
      exact (show False from q).elim
    | none =>
      have hl2 : (putK kvs k d).length ≤ sizeLine := by
        have := length_putK kvs k d
        omega
      obtain ⟨q, es, ep, hq, g2, g3, g4, _, g5⟩ := dd'
      refine h2 q0 _ _ (d_write (t' := _) I (by rw [e]; exact True.intro) hs ⟨q, hq⟩ ⟨hl2, hd, _, (rel.put k eb rd).keeps fun c ys ec => ?_, q, es, ep, hq, g2, g3, g4, g5⟩) rd
      rw [upd_ne (ne_of ec e (fun z => nomatch z))]
      exact ec
end
def SetdR (H : Hp) (a : Addr) (y z : V) (Q : VK) : Prop :=
  (∃ (kvs : List (L2.Key × V)) (k : L2.Key), H a = some (.dK kvs) ∧ y = kV k ∧ kvs.length < sizeLine ∧ (∀ v, valV kvs k = some v → Q v H) ∧ (valV kvs k = none → Q z (upd H a (.dK (putK kvs k z))))) ∨
  ∃ (kvs : List (List L2.Key × V)) (k : List L2.Key) (b : Addr), H a = some (.dT kvs) ∧ y = .ref b ∧ H b = some (.tup (k.map kV)) ∧ kvs.length < sizeLine ∧ (∀ v, valV kvs k = some v → Q v H) ∧ (valV kvs k = none → Q z (upd H a (.dT (putK kvs k z))))
def tDSetdA (td ty tx : TE) : TE := fun σ H Q => td σ H fun x H1 => ∃ a, x = .ref a ∧ IsD H1 a ∧ ty σ H1 fun y H2 => tx σ H2 fun z H3 => SetdR H3 a y z Q
section
variable {X : Cx} {o e f : Expr} {td ty tx : TE} {apos cpos : Pos}
theorem pe_dsetdA (hu : X.A.units + 64 < cLine) (ho : PE X o td) (he : PE X e ty) (hf : PE X f tx) (m : M2 X o "setdefault" apos e f cpos) : PE X (.Call (.Attribute o "setdefault" apos) [e, f] [] cpos) (tDSetdA td ty tx) := by
  refine ⟨fun pins s σ H Q I h => ?_⟩
  refine wpAny_Call_method m.base m.few m.line PySem.F.plainAttrs_dict PySem.F.slot_dict_setdefault PySem.F.type_dict_setdefault (thn (ho.run pins s σ H _ I h) fun u s1 ⟨x, H1, I1, rx, a, ex, d, q1⟩ => ?_)
  subst ex
  obtain rfl : u = Value.ref a := rx
  obtain ⟨t1, t2, _⟩ := isD_at I1 d
  refine ⟨t1, t2, ?_⟩
  rw [m.trees]
  refine Calls.callWith_builtin rfl (Calls.evalArgs_plain (Calls.spliced_cons (thn (he.run pins s1 σ H1 _ I1 q1) fun iv s2 ⟨y, H2, I2, ry, q2⟩ =>
    Calls.spliced_cons (thn (hf.run pins s2 σ H2 _ I2 q2) fun fv s3 ⟨z, H3, I3, rz, q3⟩ => Calls.spliced_nil ?_))))
  rcases q3 with ⟨kvs, k, ea, ey, hl, q3, q4⟩ | ⟨kvs, k, b, ea, ey, eb, hl, q3, q4⟩
  · subst ey
    exact d_setd I3 ea ry rz hl (fun v hv w' s4 I4 rw' => ⟨v, _, I4, rw', q3 v hv⟩) fun hn w' s4 I4 rw' => ⟨z, _, I4, rw', q4 hn⟩
  · subst ey
    cases (show iv = Value.ref b from ry)
    exact d_setdT (by omega) I3 ea eb rz hl (fun v hv w' s4 I4 rw' => ⟨v, _, I4, rw', q3 v hv⟩) fun hn w' s4 I4 rw' => ⟨z, _, I4, rw', q4 hn⟩
def tDNewA : TE := fun _ H Q => (∀ p, H p = none → Q (.ref p) (upd H p (.dK []))) ∨ ∀ p, H p = none → Q (.ref p) (upd H p (.dT []))
end
end Eyes

set_option Elab.async false
set_option linter.all false
set_option maxRecDepth 100000
/-! The parting by keys: each case gets the first case with an equal key. -/
namespace Eyes
open PySem PySem.Spec PyProof.Rows L2
section
variable {α β : Type} [DecidableEq α] [DecidableEq β]
def firsts (ks : List α) : List Nat := ks.map fun k => ks.idxOf k + 1
theorem firsts_len {ks : List α} : (firsts ks).length = ks.length := List.length_map ..
theorem firsts_itm {ks : List α} {x : Nat} {k : α} (h1 : 1 ≤ x) (h : ks[x - 1]? = some k) : itm (firsts ks) x = ks.idxOf k + 1 := by
  unfold itm firsts
  rw [List.getD_eq_getElem?_getD, List.getElem?_map, h]
  rfl
theorem idx_le {ks : List α} {i : Nat} {k : α} (h : ks[i]? = some k) : ks.idxOf k ≤ i := by
  induction ks generalizing i with
  | nil => cases h
  | cons a l ih =>
    rw [List.idxOf_cons]
    by_cases g : a = k
    · rw [show (a == k) = true by simpa using g]
      exact Nat.zero_le _
    · rw [show (a == k) = false by simpa using g]
      cases i with
      | zero => exact absurd (Option.some.inj h) g
      | succ i =>
        have := ih (i := i) h
        simp only [cond_false]
        omega
theorem idx_get {ks : List α} {k : α} (h : k ∈ ks) : ks[ks.idxOf k]? = some k := by
  induction ks with
  | nil => cases h
  | cons a l ih =>
    rw [List.idxOf_cons]
    by_cases g : a = k
    · rw [show (a == k) = true by simpa using g]
      exact congrArg some g
    · rw [show (a == k) = false by simpa using g]
      simp only [cond_false]
      rw [List.getElem?_cons_succ]
      exact ih ((List.mem_cons.mp h).resolve_left fun e => g e.symm)
theorem isP_firsts (ks : List α) : IsP ks.length (firsts ks) := by
  refine ⟨firsts_len, fun x h1 h2 => ?_, fun x h1 h2 => ?_⟩
  · have h : ks[x - 1]? = some (ks[x - 1]'(by omega)) := List.getElem?_eq_getElem _
    rw [firsts_itm h1 h]
    have := idx_le h
    omega
  · have h : ks[x - 1]? = some (ks[x - 1]'(by omega)) := List.getElem?_eq_getElem _
    rw [firsts_itm h1 h]
    refine firsts_itm (by omega) ?_
    rw [Nat.add_sub_cancel]
    exact idx_get (List.mem_of_getElem? h)
end
def keysN (n : Nat) (ps : List (List Nat)) : List (List Nat) := (List.range n).map fun k => ps.map fun p => itm p (k + 1)
def metN (n : Nat) (ps : List (List Nat)) : List Nat := firsts (keysN n ps)
theorem keysN_len {n : Nat} {ps : List (List Nat)} : (keysN n ps).length = n := by
  unfold keysN
  rw [List.length_map, List.length_range]
theorem metN_isP (n : Nat) (ps : List (List Nat)) : IsP n (metN n ps) := by
  have h := isP_firsts (keysN n ps)
  rw [keysN_len] at h
  exact h
end Eyes

set_option Elab.async false
set_option linter.all false
set_option maxRecDepth 100000
set_option maxHeartbeats 4000000
namespace Eyes
open PySem PySem.Spec PyProof.Rows L2 Evl TL
/-! ### by keys -/
section
variable {κ : Type} [DecidableEq κ]
def fstOf (ks : List κ) (k : κ) : Nat := ks.idxOf k + 1
structure Fsts (ks : List κ) (i : Nat) (kvs : List (κ × V)) : Prop where
  len : kvs.length ≤ i
  val : ∀ k, valV kvs k = if k ∈ ks.take i then some (.int ((fstOf ks k : Nat) : Int)) else none
theorem Fsts.zero (ks : List κ) : Fsts ks 0 ([] : List (κ × V)) := ⟨Nat.le_refl _, fun k => by rw [List.take_zero, if_neg (fun h => by cases h)]; rfl⟩
theorem mem_take_succ {ks : List κ} {i : Nat} {k j : κ} (h : ks[i]? = some k) : j ∈ ks.take (i + 1) ↔ j ∈ ks.take i ∨ j = k := by
  rw [List.take_add_one, h, List.mem_append]
  exact or_congr Iff.rfl List.mem_singleton
theorem Fsts.has {ks : List κ} {i : Nat} {kvs : List (κ × V)} {k : κ} {v : V} (F : Fsts ks i kvs) (h : ks[i]? = some k) (hv : valV kvs k = some v) : v = .int ((fstOf ks k : Nat) : Int) ∧ Fsts ks (i + 1) kvs := by
  rw [F.val k] at hv
  by_cases g : k ∈ ks.take i
  · rw [if_pos g] at hv
    refine ⟨(Option.some.inj hv).symm, Nat.le_succ_of_le F.len, fun j => ?_⟩
    rw [F.val j]
    by_cases e : j ∈ ks.take i
    · rw [if_pos e, if_pos ((mem_take_succ h).mpr (.inl e))]
    · rw [if_neg e, if_neg fun z => by
        rcases (mem_take_succ h).mp z with z | z
        · exact e z
        · rw [z] at e
          exact e g]
  · rw [if_neg g] at hv
    cases hv
theorem idx_new {ks : List κ} {i : Nat} {k : κ} (h : ks[i]? = some k) (g : k ∉ ks.take i) : ks.idxOf k = i := by
  have a := idx_le h
  have b := idx_get (List.mem_of_getElem? h)
  rcases Nat.lt_or_ge (ks.idxOf k) i with c | c
  · refine absurd ?_ g
    refine List.mem_of_getElem? (i := ks.idxOf k) ?_
    rw [List.getElem?_take_of_lt c]
    exact b
  · omega
theorem Fsts.new {ks : List κ} {i : Nat} {kvs : List (κ × V)} {k : κ} (F : Fsts ks i kvs) (h : ks[i]? = some k) (hv : valV kvs k = none) : fstOf ks k = i + 1 ∧ Fsts ks (i + 1) (putK kvs k (.int ((i + 1 : Nat) : Int))) := by
  rw [F.val k] at hv
  by_cases g : k ∈ ks.take i
  · rw [if_pos g] at hv
    cases hv
  · have hi : fstOf ks k = i + 1 := congrArg (· + 1) (idx_new h g)
    refine ⟨hi, ?_, fun j => ?_⟩
    · have := length_putK kvs k (.int ((i + 1 : Nat) : Int))
      have := F.len
      omega
    · rw [valV_put, F.val j]
      by_cases e : j = k
      · rw [if_pos e, if_pos ((mem_take_succ h).mpr (.inr e)), e, hi]
      · rw [if_neg e]
        by_cases c : j ∈ ks.take i
        · rw [if_pos c, if_pos ((mem_take_succ h).mpr (.inl c))]
        · rw [if_neg c, if_neg fun z => ((mem_take_succ h).mp z).elim c e]
end
def spKeysT (K : PySem.W.Frag) : Sp := fun vs H Q _ => ∃ (a : Addr) (us : List V) (ks : List (List L2.Key)), vs = [.ref a] ∧ SqL K H a us ∧ us.length = ks.length ∧ ks.length ≤ 4096 ∧ (∀ (i : Nat) (u : V) (k : List L2.Key), us[i]? = some u → ks[i]? = some k → ∃ b, u = .ref b ∧ H b = some (.tup (k.map kV))) ∧ ∀ r H', Ex H H' → H r = none → H' r = some (.tup (nvs (firsts ks))) → Q (.ref r) H'
def spKeysI (K : PySem.W.Frag) : Sp := fun vs H Q _ => ∃ (a : Addr) (us : List V) (ks : List L2.Key), vs = [.ref a] ∧ SqL K H a us ∧ us.length = ks.length ∧ ks.length ≤ 4096 ∧ (∀ (i : Nat) (u : V) (k : L2.Key), us[i]? = some u → ks[i]? = some k → u = kV k) ∧ ∀ r H', Ex H H' → H r = none → H' r = some (.tup (nvs (firsts ks))) → Q (.ref r) H'
section
variable {P : Program} {w : World} {K : PySem.W.Frag} {mg : Str → Option Value} {base : Heap} {AA : Adr}
end
end Eyes

set_option Elab.async false
set_option linter.all false
set_option maxRecDepth 100000
set_option maxHeartbeats 4000000
namespace Eyes
open PySem PySem.Spec PyProof.Rows L2 Evl TL
def besN (p q : List Nat) : List Nat := p ++ q.map (· + p.length)
def spBeside (K : PySem.W.Frag) : Sp := fun vs H Q _ => ∃ (a b : Addr) (p q : List Nat), vs = [.ref a, .ref b] ∧ (1 ≤ p.length ∧ p.length ≤ 4096) ∧ (1 ≤ q.length ∧ q.length ≤ 4096) ∧ SqT K H a (nvs p) ∧ SqT K H b (nvs q) ∧ ∀ r H', Ex H H' → H r = none → H' r = some (.tup (nvs (besN p q))) → Q (.ref r) H'
section
variable {P : Program} {w : World} {K : PySem.W.Frag} {mg : Str → Option Value} {base : Heap} {AA : Adr}
end
end Eyes

set_option Elab.async false
set_option linter.all false
set_option maxRecDepth 100000
set_option maxHeartbeats 4000000
namespace Eyes
open PySem PySem.Spec PyProof.Rows L2 Evl TL
def narN (p cs : List Nat) : List Nat := firsts (cs.map (itm p))
def spNarrowed (K : PySem.W.Frag) : Sp := fun vs H Q _ => ∃ (a b : Addr) (p cs : List Nat), vs = [.ref a, .ref b] ∧ cs.length ≤ 4096 ∧ (∀ c ∈ cs, 1 ≤ c ∧ c ≤ p.length) ∧ SqT K H a (nvs p) ∧ SqL K H b (nvs cs) ∧ ∀ r H', Ex H H' → H r = none → H' r = some (.tup (nvs (narN p cs))) → Q (.ref r) H'
section
variable {P : Program} {w : World} {K : PySem.W.Frag} {mg : Str → Option Value} {base : Heap} {AA : Adr}
end
end Eyes

set_option Elab.async false
set_option linter.all false
set_option maxRecDepth 100000
set_option maxHeartbeats 4000000
/-! list(zip(*rows)) of two rows, list(zip(p, q)): the pairs stay in the list, so each one is new. -/
namespace Eyes
open PySem PySem.Spec PyProof.Rows L2
section
variable {prog : Program} {w : World} {A : Around} {E : Value → Shared → Prop} {s : Shared}
end
structure Zst (b0 : Heap) (S z u o c d : Addr) (xs ys : List Value) (m : Nat) (ts : List Addr) (h : Heap) : Prop where
  len : ts.length = m
  keep : ∀ a ob, b0.get? a = some ob → h.get? a = some ob
  lst : ∃ n, h.get? S = some { cls := .type "list", data := .seq (ts.map Value.ref).toArray n }
  new : ∀ t ∈ ts, b0.objs.size ≤ t ∧ (∃ ob, h.get? t = some ob) ∧ t ∉ [S, z, u, o, c, d]
  nd : ts.Nodup
  at_ : ∀ (i : Nat) (t : Addr) (x y : Value), ts[i]? = some t → xs[i]? = some x → ys[i]? = some y → h.get? t = some { cls := .type "tuple", data := .seq #[x, y] }
section
variable {prog : Program} {w : World} {A : Around} {R : Result → Shared → Prop} {b0 h h' : Heap} {S z u o c d p q : Addr} {xs ys : List Value} {m : Nat} {ts : List Addr}
theorem Zst.turn (st : Zst b0 S z u o c d xs ys m ts h) (old : ∀ a ∈ [z, c, d], b0.objs.size ≤ a) (apS : S ∉ [z, c, d]) (kp : ∀ a ob, a ∉ [z, c, d] → h.get? a = some ob → h'.get? a = some ob) : Zst b0 S z u o c d xs ys m ts h' := by
  obtain ⟨n, hS⟩ := st.lst
  have sub6 : ∀ {a : Addr}, a ∈ [z, c, d] → a ∈ [S, z, u, o, c, d] := fun {a} hm => by
    simp only [List.mem_cons, List.not_mem_nil, or_false] at hm ⊢
    rcases hm with e | e | e
    · exact .inr (.inl e)
    · exact .inr (.inr (.inr (.inr (.inl e))))
    · exact .inr (.inr (.inr (.inr (.inr e))))
  refine ⟨st.len, fun a ob e => kp _ _ (fun hm => ?_) (st.keep _ _ e), ⟨n, kp _ _ apS hS⟩, fun t ht => ⟨(st.new t ht).1, (st.new t ht).2.1.imp fun ob e => kp _ _ (fun hm => (st.new t ht).2.2 (sub6 hm)) e, (st.new t ht).2.2⟩, st.nd, fun i t x y e1 e2 e3 => kp _ _ (fun hm => (st.new t (List.mem_of_getElem? e1)).2.2 (sub6 hm)) (st.at_ i t x y e1 e2 e3)⟩
  exact Nat.lt_irrefl _ (Nat.lt_of_lt_of_le (Heap.lt_size e) (old a hm))
theorem Zst.push (st : Zst b0 S z u o c d xs ys m ts h) {T : Addr} (hT : h.get? T = none) (hT0 : b0.objs.size ≤ T) (hT2 : T ∉ [S, z, u, o, c, d]) (hT3 : ∃ ob, h'.get? T = some ob) (old : ∀ a ∈ [S, z, c, d], b0.objs.size ≤ a) (kp : ∀ a ob, a ∉ [S, z, c, d] → h.get? a = some ob → h'.get? a = some ob)
    (hS : ∃ n, h'.get? S = some { cls := .type "list", data := .seq ((ts ++ [T]).map Value.ref).toArray n }) (hp : ∀ x y, xs[m]? = some x → ys[m]? = some y → h'.get? T = some { cls := .type "tuple", data := .seq #[x, y] }) : Zst b0 S z u o c d xs ys (m + 1) (ts ++ [T]) h' := by
  have nS : ∀ {a ob}, b0.get? a = some ob → a ∉ [S, z, c, d] := fun {a ob} e hm => Nat.lt_irrefl _ (Nat.lt_of_lt_of_le (Heap.lt_size e) (old a hm))
  have sub6 : ∀ {a : Addr}, a ∉ [S, z, u, o, c, d] → a ∉ [S, z, c, d] := fun {a} hn hm => hn (by
    simp only [List.mem_cons, List.not_mem_nil, or_false] at hm ⊢
    rcases hm with e | e | e | e
    · exact .inl e
    · exact .inr (.inl e)
    · exact .inr (.inr (.inr (.inr (.inl e))))
    · exact .inr (.inr (.inr (.inr (.inr e)))))
  refine ⟨by rw [List.length_append, st.len]; rfl, fun a ob e => kp _ _ (nS e) (st.keep _ _ e), hS, fun t ht => ?_, ?_, fun i t x y e1 e2 e3 => ?_⟩
  · rcases List.mem_append.mp ht with ht | ht
    · obtain ⟨a1, a2, a3⟩ := st.new t ht
      exact ⟨a1, a2.imp fun ob e => kp _ _ (sub6 a3) e, a3⟩
    · rw [List.mem_singleton.mp ht]
      exact ⟨hT0, hT3, hT2⟩
  · refine List.nodup_append.mpr ⟨st.nd, by simp, fun a ha b hb e => ?_⟩
    rw [List.mem_singleton.mp hb] at e
    obtain ⟨ob, h2⟩ := (st.new a ha).2.1
    rw [e, hT] at h2
    cases h2
  · by_cases hi : i < ts.length
    · rw [List.getElem?_append_left hi] at e1
      exact kp _ _ (sub6 (st.new t (List.mem_of_getElem? e1)).2.2) (st.at_ i t x y e1 e2 e3)
    · have hl := st.len
      have : i = m := by
        have := (List.getElem?_eq_some_iff.mp e1).1
        rw [List.length_append] at this
        simp at this
        omega
      subst this
      rw [List.getElem?_append_right (by omega), hl, Nat.sub_self] at e1
      rw [← Option.some.inj e1]
      exact hp x y e2 e3
end
/-! ### the heap behind it -/
def layT (H : Hp) : List (Addr × List V) → Hp
  | [] => H
  | (t, c) :: r => upd (layT H r) t (.tup c)
theorem layT_none {H : Hp} {a : Addr} : ∀ {l : List (Addr × List V)}, (∀ p ∈ l, p.1 ≠ a) → layT H l a = H a
  | [], _ => rfl
  | (t, c) :: r, h => by
    show upd (layT H r) t (.tup c) a = _
    rw [upd_ne (fun e => h (t, c) List.mem_cons_self e.symm)]
    exact layT_none fun p hp => h p (List.mem_cons_of_mem _ hp)
theorem layT_cases {H : Hp} {a : Addr} {ob : HO} : ∀ {l : List (Addr × List V)}, layT H l a = some ob → H a = some ob ∨ ∃ c, (a, c) ∈ l ∧ ob = .tup c
  | [], h => .inl h
  | (t, c) :: r, h => by
    by_cases e : a = t
    · subst e
      rw [show layT H ((a, c) :: r) a = some (.tup c) from upd_same] at h
      exact .inr ⟨c, List.mem_cons_self, (Option.some.inj h).symm⟩
    · rw [show layT H ((t, c) :: r) a = layT H r a from upd_ne e] at h
      exact (layT_cases h).imp id fun ⟨c, h1, h2⟩ => ⟨c, List.mem_cons_of_mem _ h1, h2⟩
theorem Inv.many {X : Cx} {pins : List (Addr × Obj)} {σ : L2.St} {H : Hp} {s : Shared} {h' : Heap} {l : List (Addr × List V)} {S : Addr} {vs : List V} {its : List Value} {n : Nat} (I : Inv X pins σ H s) (k : ∀ b o, s.heap.get? b = some o → h'.get? b = some o) (hl : ∀ p ∈ l, s.heap.objs.size ≤ p.1 ∧ p.1 ≠ S) (nd : (l.map (·.1)).Nodup) (hS : s.heap.objs.size ≤ S)
    (ok : ∀ p ∈ l, p.2.length ≤ sizeLine ∧ ∃ us, Vals p.2 us ∧ IsTup h' p.1 us.toArray) (hv : vs.length ≤ sizeLine) (rv : Vals vs its) (hs : h'.get? S = some { cls := .type "list", data := .seq its.toArray n }) : Inv X pins σ (upd (layT H l) S (.lst vs)) { s with heap := h' } := by
  have hn : ∀ {a : Addr}, s.heap.objs.size ≤ a → H a = none := fun {a} h => I.hok.fresh h
  have old : ∀ {a : Addr} {o : Obj}, s.heap.get? a = some o → (∀ p ∈ l, p.1 ≠ a) ∧ a ≠ S := fun {a o} e => by
    have := Heap.lt_size e
    exact ⟨fun p hp z => Nat.lt_irrefl _ (Nat.lt_of_lt_of_le this (z ▸ (hl p hp).1)), fun z => Nat.lt_irrefl _ (Nat.lt_of_lt_of_le this (z ▸ hS))⟩
  have tr : ∀ {a : Addr} {o : HO}, H a = some o → (∀ p ∈ l, p.1 ≠ a) ∧ a ≠ S := fun {a o} e => by
    have z := I.hok.lt e
    exact ⟨fun p hp y => Nat.lt_irrefl _ (Nat.lt_of_lt_of_le z (y ▸ (hl p hp).1)), fun y => Nat.lt_irrefl _ (Nat.lt_of_lt_of_le z (y ▸ hS))⟩
  have ext : ∀ {a : Addr} {o : HO}, H a = some o → upd (layT H l) S (.lst vs) a = some o := fun {a o} e => by
    rw [upd_ne (tr e).2, layT_none (tr e).1]
    exact e
  have no : ∀ {a : Addr} {o : Obj}, s.heap.get? a = some o → H a = none → upd (layT H l) S (.lst vs) a = none := fun {a o} e z => by
    rw [upd_ne (old e).2, layT_none (old e).1]
    exact z
  refine I.un (t' := s.toks) ⟨fun b ob q _ _ _ => k b ob q, fun b ob q _ _ _ => ⟨ob.slots, k b ob q⟩, fun b ob q z _ => no q z, fun b ob q _ => ⟨ob, k b ob q⟩, fun b xs q => ext q, fun b o u q => ext q, fun b ps q => ⟨#[], by rw [ext q]; simp⟩⟩ fun a o e => ?_
  by_cases ha : a = S
  · subst ha
    rw [upd_same] at e
    cases e
    exact ⟨hv, its, n, rv, hs⟩
  · rw [upd_ne ha] at e
    rcases layT_cases e with e | ⟨c, hc, rfl⟩
    · exact (I.hok a o e).stay (fun b u _ q => k b u q) (fun b q => ext q) fun b xs q => ext q
    · obtain ⟨z1, us, z2, z3⟩ := ok (a, c) hc
      exact ⟨z1, us, z2, z3⟩
open Evl
def kListZ (K : PySem.W.Frag) (a b : Addr) (H1 : Hp) (Q : VK) : Prop := ∃ xs ys : List V, SqT K H1 a xs ∧ SqT K H1 b ys ∧ xs.length = ys.length ∧ 0 < xs.length ∧ xs.length ≤ 100000 ∧ ∀ q us H2, Ex H1 H2 → H1 q = none → H2 q = some (.lst us) → us.length = xs.length → (∀ (i : Nat) (x y : V), xs[i]? = some x → ys[i]? = some y → ∃ t, us[i]? = some (.ref t) ∧ H1 t = none ∧ H2 t = some (.tup [x, y])) → Q (.ref q) H2
section
variable {X : Cx} {p pos p2 pos2 : Pos} {e e2 : Expr} {ta : TA} {te : TE}
def tListZ (K : PySem.W.Frag) (ta : TA) : TE := fun σ H Q => ta σ H fun vs H1 => ∃ a b, vs = [.ref a, .ref b] ∧ kListZ K a b H1 Q
def tListZS (K : PySem.W.Frag) (te : TE) : TE := fun σ H Q => te σ H fun x H1 => ∃ l a b, x = .ref l ∧ SqL K H1 l [.ref a, .ref b] ∧ kListZ K a b H1 Q
end
end Eyes

set_option Elab.async false
set_option linter.all false
set_option maxRecDepth 100000
set_option maxHeartbeats 4000000
/-! zip(*rows) of any number of rows (one at least): making it, each turn, list(..). -/
namespace Eyes
open PySem PySem.Spec PyProof.Rows L2
section
variable {prog : Program} {w : World} {A : Around} {E : Value → Shared → Prop} {s : Shared}
def itOb (p : Addr) : Obj := { cls := .type "tuple_iterator", data := .fields #[.ref p, .int 0 0] }
def its0 : List Addr → Heap → Heap
  | [], h => h
  | p :: ps, h => its0 ps (h.push (itOb p))
end
def znU (ps : List Addr) (h : Heap) : Heap := (its0 ps h).push { cls := .type "tuple", data := .seq ((List.range' h.objs.size ps.length).map Value.ref).toArray }
def znO (ps : List Addr) (h : Heap) : Heap := (znU ps h).push { cls := .type "tuple", data := .seq (((List.range' h.objs.size ps.length).map Value.ref).map fun _ => Value.none).toArray }
def znZ (ps : List Addr) (h : Heap) : Heap := (znO ps h).push { cls := .type "zip", data := .fields #[.none, .bool false, .bool false, .ref (its0 ps h).objs.size, .ref (znU ps h).objs.size] }
abbrev IsTp (h : Heap) (a : Addr) (xs : List Value) : Prop := h.get? a = some { cls := .type "tuple", data := .seq xs.toArray }
end Eyes

set_option Elab.async false
set_option linter.all false
set_option maxRecDepth 100000
set_option maxHeartbeats 4000000
/-! A turn of a zip of n tuples. -/
namespace Eyes
open PySem PySem.Spec PyProof.Rows L2
abbrev ZRow := Addr × Addr × List Value
structure ZApt (z u o : Addr) (L : List ZRow) : Prop where
  uz : u ≠ z
  oz : o ≠ z
  uo : u ≠ o
  it : ∀ e ∈ L, e.1 ≠ z ∧ e.1 ≠ u ∧ e.1 ≠ o
  tp : ∀ e ∈ L, e.2.1 ≠ z ∧ e.2.1 ≠ o ∧ ∀ e' ∈ L, e.2.1 ≠ e'.1
  nd : (L.map (·.1)).Nodup
def zAt (m : Nat) (L : List ZRow) : List Value := L.map fun e => e.2.2.getD m .none
section
variable {prog : Program} {w : World} {A : Around} {E : Value → Shared → Prop} {s : Shared} {z u o : Addr} {L : List ZRow} {m : Nat}
structure ZMid (h0 : Heap) (ex : List Addr) (m : Nat) (done rest : List ZRow) (h : Heap) : Prop where
  size : h.objs.size = h0.objs.size
  dn : ∀ e ∈ done, h.IsTupleIter e.1 e.2.1 (m + 1)
  rs : ∀ e ∈ rest, h.IsTupleIter e.1 e.2.1 m
  keep : ∀ a ob, a ∉ ex → (∀ e ∈ done, a ≠ e.1) → h0.get? a = some ob → h.get? a = some ob
theorem ZMid.step {h0 h h' : Heap} {ex : List Addr} {done rest : List ZRow} {e : ZRow} (S : ZMid h0 ex m done (e :: rest) h) (nd : ((done ++ e :: rest).map (·.1)).Nodup) (hi : h'.IsTupleIter e.1 e.2.1 (m + 1)) (hs : Heap.SameBut e.1 h h') : ZMid h0 ex m (done ++ [e]) rest h' := by
  rw [List.map_append, List.map_cons] at nd
  obtain ⟨n1, n2, n3⟩ := List.nodup_append.mp nd
  have n4 := (List.nodup_cons.mp n2).1
  refine ⟨by rw [hs.1, S.size], fun x hx => ?_, fun x hx => ?_, fun a ob na nd q => ?_⟩
  · rcases List.mem_append.mp hx with hx | hx
    · exact (S.dn x hx).extBut hs.extBut fun y => n3 x.1 (List.mem_map.mpr ⟨x, hx, rfl⟩) e.1 List.mem_cons_self y
    · rw [List.mem_singleton.mp hx]
      exact hi
  · exact (S.rs x (List.mem_cons_of_mem _ hx)).extBut hs.extBut fun y => n4 (by rw [← y]; exact List.mem_map.mpr ⟨x, hx, rfl⟩)
  · exact hs.extBut _ _ (nd e (by simp)) (S.keep a ob na (fun x hx => nd x (by simp [hx])) q)
theorem ZMid.upd {h0 h : Heap} {ex : List Addr} {done rest : List ZRow} {f : Obj → Obj} (S : ZMid h0 ex m done rest h) (ho : o ∈ ex) (hi : ∀ e ∈ done ++ rest, e.1 ≠ o) : ZMid h0 ex m done rest (h.update o f) := by
  have go : ∀ {a ob}, a ≠ o → h.get? a = some ob → (h.update o f).get? a = some ob := fun {a ob} na e => (Heap.get?_update_other _ _ (Ne.symm na)).trans e
  refine ⟨by rw [Heap.size_update, S.size], fun x hx => (S.dn x hx).at fun _ y => go (hi x (by simp [hx])) y, fun x hx => (S.rs x hx).at fun _ y => go (hi x (by simp [hx])) y, fun a ob na nd q => go (fun y => na (by rw [y]; exact ho)) (S.keep a ob na nd q)⟩
end
end Eyes

set_option Elab.async false
set_option linter.all false
set_option maxRecDepth 100000
set_option maxHeartbeats 4000000
/-! list(zip(*rows)) of n rows. -/
namespace Eyes
open PySem PySem.Spec PyProof.Rows L2
section
variable {prog : Program} {w : World} {A : Around} {E : Value → Shared → Prop} {s : Shared} {z u o : Addr} {L : List ZRow} {m : Nat}
end
structure Zsn (b0 : Heap) (S z u o : Addr) (L : List ZRow) (m : Nat) (ts : List Addr) (h : Heap) : Prop where
  len : ts.length = m
  keep : ∀ a ob, b0.get? a = some ob → h.get? a = some ob
  lst : ∃ n, h.get? S = some { cls := .type "list", data := .seq (ts.map Value.ref).toArray n }
  new : ∀ t ∈ ts, b0.objs.size ≤ t ∧ (∃ ob, h.get? t = some ob) ∧ t ∉ S :: u :: o :: z :: L.map (·.1)
  nd : ts.Nodup
  at_ : ∀ (i : Nat) (t : Addr), ts[i]? = some t → IsTp h t (zAt i L)
section
variable {prog : Program} {w : World} {A : Around} {R : Result → Shared → Prop} {b0 h h' : Heap} {S z u o : Addr} {L : List ZRow} {m : Nat} {ts : List Addr}
theorem zit_all {a : Addr} (h : a ∈ z :: L.map (·.1)) : a ∈ S :: u :: o :: z :: L.map (·.1) := List.mem_cons_of_mem _ (List.mem_cons_of_mem _ (List.mem_cons_of_mem _ h))
theorem Zsn.turn (st : Zsn b0 S z u o L m ts h) (old : ∀ a ∈ z :: L.map (·.1), b0.objs.size ≤ a) (apS : S ∉ z :: L.map (·.1)) (kp : ∀ a ob, a ∉ z :: L.map (·.1) → h.get? a = some ob → h'.get? a = some ob) : Zsn b0 S z u o L m ts h' := by
  obtain ⟨n, hS⟩ := st.lst
  refine ⟨st.len, fun a ob e => kp _ _ (fun hm => ?_) (st.keep _ _ e), ⟨n, kp _ _ apS hS⟩, fun t ht => ⟨(st.new t ht).1, (st.new t ht).2.1.imp fun ob e => kp _ _ (fun hm => (st.new t ht).2.2 (zit_all hm)) e, (st.new t ht).2.2⟩, st.nd, fun i t e1 => kp _ _ (fun hm => (st.new t (List.mem_of_getElem? e1)).2.2 (zit_all hm)) (st.at_ i t e1)⟩
  exact Nat.lt_irrefl _ (Nat.lt_of_lt_of_le (Heap.lt_size e) (old a hm))
theorem Zsn.push (st : Zsn b0 S z u o L m ts h) {T : Addr} (hT : h.get? T = none) (hT0 : b0.objs.size ≤ T) (hT2 : T ∉ S :: u :: o :: z :: L.map (·.1)) (old : ∀ a ∈ S :: z :: L.map (·.1), b0.objs.size ≤ a) (kp : ∀ a ob, a ∉ S :: z :: L.map (·.1) → h.get? a = some ob → h'.get? a = some ob)
    (hS : ∃ n, h'.get? S = some { cls := .type "list", data := .seq ((ts ++ [T]).map Value.ref).toArray n }) (hp : IsTp h' T (zAt m L)) : Zsn b0 S z u o L (m + 1) (ts ++ [T]) h' := by
  have nS : ∀ {a ob}, b0.get? a = some ob → a ∉ S :: z :: L.map (·.1) := fun {a ob} e hm => Nat.lt_irrefl _ (Nat.lt_of_lt_of_le (Heap.lt_size e) (old a hm))
  have sub6 : ∀ {a : Addr}, a ∉ S :: u :: o :: z :: L.map (·.1) → a ∉ S :: z :: L.map (·.1) := fun {a} hn hm => hn (by
    rcases List.mem_cons.mp hm with e | hm
    · rw [e]
      exact List.mem_cons_self
    · exact zit_all hm)
  refine ⟨by rw [List.length_append, st.len]; rfl, fun a ob e => kp _ _ (nS e) (st.keep _ _ e), hS, fun t ht => ?_, ?_, fun i t e1 => ?_⟩
  · rcases List.mem_append.mp ht with ht | ht
    · obtain ⟨a1, a2, a3⟩ := st.new t ht
      exact ⟨a1, a2.imp fun ob e => kp _ _ (sub6 a3) e, a3⟩
    · rw [List.mem_singleton.mp ht]
      exact ⟨hT0, ⟨_, hp⟩, hT2⟩
  · refine List.nodup_append.mpr ⟨st.nd, by simp, fun a ha b hb e => ?_⟩
    rw [List.mem_singleton.mp hb] at e
    obtain ⟨ob, h2⟩ := (st.new a ha).2.1
    rw [e, hT] at h2
    cases h2
  · by_cases hi : i < ts.length
    · rw [List.getElem?_append_left hi] at e1
      exact kp _ _ (sub6 (st.new t (List.mem_of_getElem? e1)).2.2) (st.at_ i t e1)
    · have hl := st.len
      have : i = m := by
        have := (List.getElem?_eq_some_iff.mp e1).1
        rw [List.length_append] at this
        simp at this
        omega
      subst this
      rw [List.getElem?_append_right (by omega), hl, Nat.sub_self] at e1
      rw [← Option.some.inj e1]
      exact hp
end
end Eyes

set_option Elab.async false
set_option linter.all false
set_option maxRecDepth 100000
set_option maxHeartbeats 4000000
/-! The rule: list(zip(*rows)), rows a list or a tuple of n tuples (n at least one) of one length (at least one). -/
namespace Eyes
open PySem PySem.Spec PyProof.Rows L2 Evl
def kListN (K : PySem.W.Frag) (rows : List (Addr × List V)) (H1 : Hp) (Q : VK) : Prop := ∃ M : Nat, rows ≠ [] ∧ rows.length ≤ 90000 ∧ 0 < M ∧ M ≤ 90000 ∧ (∀ e ∈ rows, SqT K H1 e.1 e.2 ∧ e.2.length = M) ∧
  ∀ q us H2, Ex H1 H2 → H1 q = none → H2 q = some (.lst us) → us.length = M → (∀ i, i < M → ∃ t, us[i]? = some (.ref t) ∧ H1 t = none ∧ H2 t = some (.tup (rows.map fun e => e.2.getD i .non))) → Q (.ref q) H2
section
variable {X : Cx} {p pos p2 pos2 : Pos} {e : Expr} {te : TE}
def tListN (K : PySem.W.Frag) (te : TE) : TE := fun σ H Q => te σ H fun x H1 => ∃ (l : Addr) (rows : List (Addr × List V)), x = .ref l ∧ (SqT K H1 l (rows.map fun e => V.ref e.1) ∨ SqL K H1 l (rows.map fun e => V.ref e.1)) ∧ kListN K rows H1 Q
end
end Eyes

set_option Elab.async false
set_option linter.all false
set_option maxRecDepth 100000
set_option maxHeartbeats 4000000
/-! met, any number of rows. -/
namespace Eyes
open PySem PySem.Spec PyProof.Rows L2 Evl TL
def kNat (x : Nat) : L2.Key := .inl (x : Int)
def keysK (n : Nat) (ps : List (List Nat)) : List (List L2.Key) := (keysN n ps).map fun k => k.map kNat
def spMetN (K : PySem.W.Frag) : Sp := fun vs H Q _ => ∃ (n : Nat) (l : Addr) (rows : List (Addr × List Nat)), vs = [.ref l] ∧ SqL K H l (rows.map fun e => V.ref e.1) ∧ rows ≠ [] ∧ rows.length ≤ 90000 ∧ (∀ e ∈ rows, SqT K H e.1 (nvs e.2) ∧ IsP n e.2) ∧ 1 ≤ n ∧ n ≤ 4096 ∧
  ∀ r H', Ex H H' → H r = none → H' r = some (.tup (nvs (metN n (rows.map (·.2))))) → Q (.ref r) H'
section
variable {P : Program} {w : World} {K : PySem.W.Frag} {mg : Str → Option Value} {base : Heap} {AA : Adr}
end
end Eyes

set_option Elab.async false
set_option linter.all false
set_option maxRecDepth 100000
set_option maxHeartbeats 4000000
/-! The law's knots: a row of (title, case, case). -/
namespace Eyes
open PySem PySem.Spec PyProof.Rows L2 Evl TL
abbrev Knot := Str × Nat × Nat
def Knots (G : Hp) (us : List V) (ks : List Knot) : Prop := us.length = ks.length ∧ ∀ (i : Nat) (u : V) (k : Knot), us[i]? = some u → ks[i]? = some k → ∃ p, u = .ref p ∧ G p = some (.tup [.str k.1, .int (k.2.1 : Nat), .int (k.2.2 : Nat)])
theorem Knots.mono {G G' : Hp} {us : List V} {ks : List Knot} (e : Ex G G') (h : Knots G us ks) : Knots G' us ks := ⟨h.1, fun i u k h1 h2 => by
  obtain ⟨p, rfl, hp⟩ := h.2 i u k h1 h2
  exact ⟨p, rfl, e _ _ hp⟩⟩
theorem Knots.put {G : Hp} {D : Addr} {us vs ws : List V} {ks : List Knot} (hD : G D = some (.lst vs)) (h : Knots G us ks) : Knots (upd G D (.lst ws)) us ks := ⟨h.1, fun i u k h1 h2 => by
  obtain ⟨p, rfl, hp⟩ := h.2 i u k h1 h2
  refine ⟨p, rfl, ?_⟩
  rw [upd_ne fun y => by rw [y, hD] at hp; cases hp]
  exact hp⟩
theorem Knots.snoc {G : Hp} {us : List V} {ks : List Knot} {p : Addr} {k : Knot} (h : Knots G us ks) (hp : G p = some (.tup [.str k.1, .int (k.2.1 : Nat), .int (k.2.2 : Nat)])) : Knots G (us ++ [.ref p]) (ks ++ [k]) := by
  refine ⟨by rw [List.length_append, List.length_append, h.1]; rfl, fun i u x h1 h2 => ?_⟩
  by_cases hi : i < us.length
  · rw [List.getElem?_append_left hi] at h1
    rw [List.getElem?_append_left (by rw [← h.1]; exact hi)] at h2
    exact h.2 i u x h1 h2
  · have := (List.getElem?_eq_some_iff.mp h1).1
    rw [List.length_append] at this
    have e : i = us.length := by
      simp at this
      omega
    subst e
    rw [List.getElem?_append_right (Nat.le_refl _), Nat.sub_self] at h1
    rw [List.getElem?_append_right (by rw [← h.1]; exact Nat.le_refl _), h.1, Nat.sub_self] at h2
    cases h1
    cases h2
    exact ⟨p, rfl, hp⟩
def spKnots : Sp := fun vs H Q _ => ∃ (b tla : Addr) (G : Hp) (ts : List Str) (n c : Nat), vs = [.ref b, .ref tla, .int (n : Int), .int (c : Int)] ∧ At b G H ∧ G tla = some (.lst (ts.map V.str)) ∧ ts ≠ [] ∧ ts.length ≤ 1000 ∧ 1 ≤ n ∧ n ≤ 4096 ∧ c ≤ 1000 ∧
  ∀ (D : Addr) (us : List V) (ks : List Knot) (G' H' : Hp), Ex G G' → At b G' H' → G' D = some (.lst us) → G D = none → Knots G' us ks → ks.length = c → (∀ k ∈ ks, k.1 ∈ ts ∧ 1 ≤ k.2.1 ∧ k.2.1 ≤ n ∧ 1 ≤ k.2.2 ∧ k.2.2 ≤ n) → Q (.ref D) H'
section
variable {P : Program} {w : World} {K : PySem.W.Frag} {mg : Str → Option Value} {base : Heap} {AA : Adr}
theorem ok_law_knots (T : Txt K mg AA) : Pr P w K mg base "_law_knots" s_law_knots p_law_knots 4 spKnots := by
  refine pr_mk T.f_law_knots sc_law_knots (fun vs H Q E h => ?_) (fun f cdv A outer s H vs Q E hr h => ?_)
  · obtain ⟨b, tla, G, ts, n, c, rfl, _⟩ := h
    rfl
  · obtain ⟨b, tla, G, ts, n, c, rfl, hA, htl, hne, htl2, hn1, hn2, hc, q⟩ := h
    refine ⟨_, (pss_cons (ps_set (i := 4) sc_law_knots.nd rfl (.inl rfl) (pe_lst pa_nil))
      (pss_cons (ps_for PassesOwn.never rfl (pi_range1 (by rfl) T.n_range (pa_cons (pv 3) pa_nil)) (pg_name (i := 5) sc_law_knots.nd rfl (.inl rfl))
      (pss_one (ps_expr (pe_bm PySem.F.plainAttrs_list PySem.F.slot_list_append PySem.F.type_list_append mt_append (pv 4) (pa_cons (pe_tup (pa_cons (pcall (ok_law_of T) hr (pa_cons (pv 0) (pa_cons (pv 1) pa_nil))) (pa_cons (pe_op op_add pe_int (pcall (ok_law_draw T) hr (pa_cons (pv 0) (pa_cons (pv 2) pa_nil)))) (pa_cons (pe_op op_add pe_int (pcall (ok_law_draw T) hr (pa_cons (pv 0) (pa_cons (pv 2) pa_nil)))) pa_nil)))) pa_nil)))))
      (pss_one (ps_ret (pv 4))))), ?_⟩
    have htp : 0 < (ts.map V.str).length := by
      rw [List.length_map]
      exact List.length_pos_iff.mpr hne
    have htq : (ts.map V.str).length < 1073741824 := by
      rw [List.length_map]
      omega
    refine ⟨by show 0 ≤ sizeLine; decide, fun D hD => ?_⟩
    have htD : tla ≠ D := fun e => by
      rw [← e, hA.ex _ _ htl] at hD
      cases hD
    have hA1 := hA.new (o := .lst []) hD
    have hGD := hA.nh hD
    refine ⟨_, rfl, _, rfl, by omega, by omega, ?_⟩
    refine for_it walk_range (fun i σ H' => ∃ (G' : Hp) (us : List V) (ks : List Knot) (y5 : Option V), σ = [some (.ref b), some (.ref tla), some (.int (n : Int)), some (.int (c : Int)), some (.ref D), y5] ∧ At b (upd G' D (.lst us)) H' ∧ Ex G G' ∧ G' D = none ∧ Knots G' us ks ∧ ks.length = i ∧ (∀ k ∈ ks, k.1 ∈ ts ∧ 1 ≤ k.2.1 ∧ k.2.1 ≤ n ∧ 1 ≤ k.2.2 ∧ k.2.2 ≤ n)) ⟨G, [], [], none, rfl, hA1, Ex.refl _, hGD, ⟨rfl, fun i u k h => by cases h⟩, rfl, fun k hk => nomatch hk⟩ (fun _ _ _ _ _ => True.intro) (fun i kv σ H4 H5 hi hp hy => ?_) (fun σ H6 hp => ?_)
    · obtain ⟨rfl, rfl⟩ := hy
      obtain ⟨G', us, ks, y5, rfl, hA2, x2, hD2, hk, hkl, hks⟩ := hp
      refine ⟨_, rfl, .inl ⟨rfl, us, sq_of (hA2.ex _ _ upd_same)⟩, _, rfl, _, rfl, b, .ref tla, _, _, rfl, hA2, .inl ⟨tla, rfl, sq_of ((upd_ne htD).trans (x2 _ _ htl))⟩, htp, htq, fun kx H6 hkx hA3 => ?_⟩
      obtain ⟨t, ht, rfl⟩ := List.mem_map.mp hkx
      refine ⟨_, rfl, _, rfl, b, (n : Int), _, rfl, hA3, by omega, by omega, fun d1 H7 a0 a1 hA4 => ⟨1, d1, rfl, rfl, _, rfl, _, rfl, b, (n : Int), _, rfl, hA4, by omega, by omega, fun d2 H8 b0 b1 hA5 => ⟨1, d2, rfl, rfl, by show 3 ≤ sizeLine; decide, fun p hp => ?_⟩⟩⟩
      obtain ⟨e1, rfl⟩ := Int.eq_ofNat_of_zero_le a0
      obtain ⟨e2, rfl⟩ := Int.eq_ofNat_of_zero_le b0
      have c1 : (1 : Int) + (e1 : Int) = ((1 + e1 : Nat) : Int) := by omega
      have c2 : (1 : Int) + (e2 : Int) = ((1 + e2 : Nat) : Int) := by omega
      show ∃ _, _
      dsimp only
      rw [c1, c2]
      have hA6 := hA5.new (o := .tup [.str t, .int ((1 + e1 : Nat) : Int), .int ((1 + e2 : Nat) : Int)]) hp
      have hpD : p ≠ D := fun y => by
        rw [y, hA5.ex _ _ upd_same] at hp
        cases hp
      have hDv : (upd (upd G' D (.lst us)) p (.tup [.str t, .int ((1 + e1 : Nat) : Int), .int ((1 + e2 : Nat) : Int)])) D = some (.lst us) := (upd_ne hpD.symm).trans upd_same
      have hpG : G' p = none := by
        have := hA5.nh hp
        rw [upd_ne hpD] at this
        exact this
      have e3 : upd (upd (upd G' D (.lst us)) p (.tup [.str t, .int ((1 + e1 : Nat) : Int), .int ((1 + e2 : Nat) : Int)])) D (.lst (us ++ [.ref p])) = upd (upd G' p (.tup [.str t, .int ((1 + e1 : Nat) : Int), .int ((1 + e2 : Nat) : Int)])) D (.lst (us ++ [.ref p])) := by
        funext a
        by_cases ha : a = D
        · rw [ha, upd_same, upd_same]
        · rw [upd_ne ha, upd_ne ha]
          by_cases hb : a = p
          · rw [hb, upd_same, upd_same]
          · rw [upd_ne hb, upd_ne hb, upd_ne ha]
      have hA7 := hA6.put' (o' := .lst (us ++ [.ref p])) hDv
      rw [e3] at hA7
      refine ⟨D, us, _, rfl, rfl, hA6.ex _ _ hDv, sz_lt (by rw [hk.1]; omega), upd G' p (.tup [.str t, .int ((1 + e1 : Nat) : Int), .int ((1 + e2 : Nat) : Int)]), us ++ [.ref p], ks ++ [(t, 1 + e1, 1 + e2)], _, rfl, hA7, x2.trans (Ex.new hpG), (upd_ne hpD.symm).trans hD2, (hk.mono (Ex.new hpG)).snoc upd_same, by rw [List.length_append]; show ks.length + 1 = i + 1; omega, fun k hk => ?_⟩
      rcases List.mem_append.mp hk with hk | hk
      · exact hks k hk
      · rw [List.mem_singleton.mp hk]
        exact ⟨ht, by show 1 ≤ 1 + e1; omega, by show 1 + e1 ≤ n; omega, by show 1 ≤ 1 + e2; omega, by show 1 + e2 ≤ n; omega⟩
    · obtain ⟨G', us, ks, y5, rfl, hA2, x2, hD2, hk, hkl, hks⟩ := hp
      exact ⟨_, rfl, q D us ks _ _ (x2.trans (Ex.new hD2)) hA2 upd_same hGD (hk.mono (Ex.new hD2)) (by omega) hks⟩
end
end Eyes

set_option Elab.async false
set_option linter.all false
set_option maxRecDepth 100000
set_option maxHeartbeats 4000000
/-! The law's views: a dict of names to partings, by the knots one after another. -/
namespace Eyes
open PySem PySem.Spec PyProof.Rows L2 Evl TL
/-! ### views: names and partings in their order -/
abbrev Vw := List (Str × List Nat)
def wGet (f : Vw) (t : Str) : Option (List Nat) := (f.find? fun e => decide (e.1 = t)).map (·.2)
def wPut (f : Vw) (t : Str) (p : List Nat) : Vw := if (f.any fun e => decide (e.1 = t)) = true then f.map (fun e => if e.1 = t then (e.1, p) else e) else f ++ [(t, p)]
def knotV (n : Nat) (f : Vw) (k : Knot) : Vw := wPut f k.1 (mrg1 ((wGet f k.1).getD (alone n)) k.2.1 k.2.2)
def knotsV (n : Nat) (ks : List Knot) : Vw := ks.foldl (knotV n) []
abbrev VRow := Str × Addr × List Nat
def vK (W : List VRow) : List (L2.Key × V) := W.map fun e => (.inr e.1, .ref e.2.1)
def vW (W : List VRow) : Vw := W.map fun e => (e.1, e.2.2)
def vGet (W : List VRow) (t : Str) : Option VRow := W.find? fun e => decide (e.1 = t)
def vPut (W : List VRow) (t : Str) (a : Addr) (p : List Nat) : List VRow := if (W.any fun e => decide (e.1 = t)) = true then W.map (fun e => if e.1 = t then (e.1, a, p) else e) else W ++ [(t, a, p)]
theorem inr_iff {s t : Str} : (Sum.inr s : L2.Key) = .inr t ↔ s = t := ⟨fun h => Sum.inr.inj h, fun h => by rw [h]⟩
theorem vK_get (t : Str) : ∀ W : List VRow, valV (vK W) (.inr t) = (vGet W t).map fun e => .ref e.2.1
  | [] => rfl
  | e :: W => by
    show valV (((.inr e.1 : L2.Key), V.ref e.2.1) :: vK W) (.inr t) = _
    unfold vGet
    rw [List.find?_cons]
    by_cases h : e.1 = t
    · rw [valV_pos (inr_iff.mpr h), decide_eq_true h]
      rfl
    · rw [valV_neg (fun z => h (inr_iff.mp z)), decide_eq_false h]
      exact vK_get t W
theorem vW_get (t : Str) : ∀ W : List VRow, wGet (vW W) t = (vGet W t).map fun e => e.2.2
  | [] => rfl
  | e :: W => by
    unfold wGet vGet vW
    rw [List.map_cons, List.find?_cons, List.find?_cons]
    by_cases h : e.1 = t
    · rw [decide_eq_true h]
      rfl
    · rw [decide_eq_false h]
      exact vW_get t W
theorem vK_put {W : List VRow} {t : Str} {a : Addr} {p : List Nat} : putK (vK W) (.inr t) (.ref a) = vK (vPut W t a p) := by
  unfold putK vPut
  have e : ((vK W).any fun kv => decide (kv.1 = .inr t)) = W.any fun e => decide (e.1 = t) := by
    unfold vK
    rw [List.any_map]
    refine congrArg (fun f => W.any f) (funext fun e => ?_)
    exact decide_eq_decide.mpr inr_iff
  rw [e]
  split
  · unfold vK
    rw [List.map_map, List.map_map]
    refine List.map_congr_left fun x _ => ?_
    show (if (Sum.inr x.1 : L2.Key) = .inr t then _ else _) = _
    by_cases h : x.1 = t
    · rw [if_pos (inr_iff.mpr h)]
      show _ = ((fun e : VRow => ((.inr e.1 : L2.Key), V.ref e.2.1)) ∘ fun e : VRow => if e.1 = t then (e.1, a, p) else e) x
      simp [h]
    · rw [if_neg fun z => h (inr_iff.mp z)]
      simp [h]
  · unfold vK
    rw [List.map_append]
    rfl
theorem vW_put {W : List VRow} {t : Str} {a : Addr} {p : List Nat} : wPut (vW W) t p = vW (vPut W t a p) := by
  unfold wPut vPut
  have e : ((vW W).any fun kv => decide (kv.1 = t)) = W.any fun e => decide (e.1 = t) := by
    unfold vW
    rw [List.any_map]
    rfl
  rw [e]
  split
  · unfold vW
    rw [List.map_map, List.map_map]
    refine List.map_congr_left fun x _ => ?_
    by_cases h : x.1 = t
    · simp [h]
    · simp [h]
  · unfold vW
    rw [List.map_append]
    rfl
theorem vPut_len {W : List VRow} {t : Str} {a : Addr} {p : List Nat} : (vPut W t a p).length ≤ W.length + 1 := by
  unfold vPut
  split
  · rw [List.length_map]
    omega
  · rw [List.length_append]
    exact Nat.le_refl _
theorem vPut_all {W : List VRow} {t : Str} {a : Addr} {p : List Nat} {Pp : Addr → List Nat → Prop} (h : ∀ e ∈ W, Pp e.2.1 e.2.2) (hp : Pp a p) : ∀ e ∈ vPut W t a p, Pp e.2.1 e.2.2 := fun e he => by
  unfold vPut at he
  split at he
  · obtain ⟨x, hx, rfl⟩ := List.mem_map.mp he
    split
    · exact hp
    · exact h x hx
  · rcases List.mem_append.mp he with he | he
    · exact h e he
    · rw [List.mem_singleton.mp he]
      exact hp
def VwAt (H : Hp) (D : Addr) (n : Nat) (f : Vw) : Prop := ∃ W : List VRow, H D = some (.dK (vK W)) ∧ vW W = f ∧ ∀ e ∈ W, H e.2.1 = some (.tup (nvs e.2.2)) ∧ IsP n e.2.2
theorem VwAt.mono {H H' : Hp} {D : Addr} {n : Nat} {f : Vw} (e : Ex H H') (h : VwAt H D n f) : VwAt H' D n f := by
  obtain ⟨W, h1, h2, h3⟩ := h
  exact ⟨W, e _ _ h1, h2, fun x hx => ⟨e _ _ (h3 x hx).1, (h3 x hx).2⟩⟩
def spViews (K : PySem.W.Frag) : Sp := fun vs H Q _ => ∃ (n : Nat) (l : Addr) (us : List V) (ks : List Knot), vs = [.int (n : Int), .ref l] ∧ n ≤ 4096 ∧ H l = some (.lst us) ∧ Knots H us ks ∧ ks.length ≤ 1000 ∧ (∀ k ∈ ks, 1 ≤ k.2.1 ∧ k.2.1 ≤ n ∧ 1 ≤ k.2.2 ∧ k.2.2 ≤ n) ∧
  ∀ D H', Ex H H' → H D = none → VwAt H' D n (knotsV n ks) → Q (.ref D) H'
section
variable {P : Program} {w : World} {K : PySem.W.Frag} {mg : Str → Option Value} {base : Heap} {AA : Adr}
theorem ok_law_views (T : Txt K mg AA) : Pr P w K mg base "_law_views" s_law_views p_law_views 4 (spViews K) := by
  refine pr_mk T.f_law_views sc_law_views (fun vs H Q E h => ?_) (fun f cdv A outer s H vs Q E hr h => ?_)
  · obtain ⟨n, l, us, ks, rfl, _⟩ := h
    rfl
  · obtain ⟨n, l, us, ks, rfl, hn, hl, hk, hkl, hks, q⟩ := h
    refine ⟨_, (pss_cons (ps_set (i := 2) sc_law_views.nd rfl (.inl rfl) pe_dnewK)
      (pss_cons (ps_for PassesOwn.never rfl (pi_list (pv 1)) (pg_tup (by rfl) (pgs_cons (pg_name (i := 3) sc_law_views.nd rfl (.inl rfl)) (pgs_cons (pg_name (i := 4) sc_law_views.nd rfl (.inl rfl)) (pgs_cons (pg_name (i := 5) sc_law_views.nd rfl (.inl rfl)) pgs_nil))))
      (pss_one (ps_dput (hu_of hr) (pv 2) (pv 3) (pcall (ok_law_merged T) hr (pa_cons (pe_dget2 (hu_of hr) (pv 2) (pv 3) (pcall (ok_law_alone T) hr (pa_cons (pv 0) pa_nil)) ⟨by rfl, by rfl, by rfl, by rfl⟩) (pa_cons (pe_lst (pa_cons (pe_tup (pa_cons (pv 4) (pa_cons (pv 5) pa_nil))) pa_nil)) pa_nil))) rfl)))
      (pss_one (ps_ret (pv 2))))), ?_⟩
    refine fun D hD => ⟨_, rfl, l, rfl, ⟨us, sq_of (Ex.new hD _ _ hl)⟩, ?_⟩
    refine for_list (xs := us) (fun i σ H' => ∃ (W : List VRow) (y3 y4 y5 : Option V), σ = [some (.int (n : Int)), some (.ref l), some (.ref D), y3, y4, y5] ∧ Ex H H' ∧ H' D = some (.dK (vK W)) ∧ vW W = knotsV n (ks.take i) ∧ W.length ≤ i ∧ ∀ e ∈ W, H' e.2.1 = some (.tup (nvs e.2.2)) ∧ IsP n e.2.2) ⟨[], none, none, none, rfl, Ex.new hD, upd_same, rfl, Nat.le_refl _, fun e he => nomatch he⟩ (fun i σ H' _ hp => ?_) (fun i u σ H' hu hp => ?_) (fun σ H' hp => ?_)
    · obtain ⟨W, y3, y4, y5, rfl, e, _⟩ := hp
      exact sq_of (e _ _ hl)
    · obtain ⟨W, y3, y4, y5, rfl, e1, hDH, hW, hWl, hWe⟩ := hp
      have hi : i < us.length := (List.getElem?_eq_some_iff.mp hu).1
      have hik : i < ks.length := by rw [← hk.1]; exact hi
      obtain ⟨p, rfl, hp⟩ := hk.2 i u ks[i] hu (List.getElem?_eq_getElem hik)
      have hkn := hks ks[i] (List.getElem_mem hik)
      have htk : knotsV n (ks.take (i + 1)) = knotV n (knotsV n (ks.take i)) ks[i] := by
        unfold knotsV
        rw [List.take_add_one, List.getElem?_eq_getElem hik, List.foldl_append]
        rfl
      generalize ks[i] = k at hkn htk hp ⊢
      obtain ⟨t, x, y⟩ := k
      obtain ⟨k1, k2, k3, k4⟩ := hkn
      refine ⟨p, _, rfl, st_of (e1 _ _ hp), rfl, _, _, rfl, _, _, rfl, _, _, rfl, rfl, ?_⟩
      refine ⟨_, rfl, D, rfl, .inl ⟨_, .inl hDH⟩, _, rfl, _, rfl, n, rfl, hn, fun pa hpa => ⟨_, DGet.k (k := .inr t) (Ex.new hpa _ _ hDH), ?_⟩⟩
      have ea := Ex.new (o := .tup (nvs (alone n))) hpa
      obtain ⟨a0, p0, g1, g2, g3, g4⟩ : ∃ (a0 : Addr) (p0 : List Nat), ((valV (vK W) (.inr t)).getD (.ref pa)) = .ref a0 ∧ upd H' pa (.tup (nvs (alone n))) a0 = some (.tup (nvs p0)) ∧ IsP n p0 ∧ p0 = (wGet (vW W) t).getD (alone n) := by
        rw [vK_get, vW_get]
        cases hg : vGet W t with
        | none => exact ⟨pa, alone n, rfl, upd_same, isP_alone n, rfl⟩
        | some e =>
          have he := List.mem_of_find?_eq_some hg
          exact ⟨e.2.1, e.2.2, rfl, ea _ _ (hWe e he).1, (hWe e he).2, rfl⟩
      rw [g1]
      refine ⟨_, rfl, _, rfl, by show 2 ≤ sizeLine; decide, fun p2 hp2 => ⟨by show 1 ≤ sizeLine; decide, fun p3 hp3 => ?_⟩⟩
      have eb := Ex.new (o := .tup [.int (x : Nat), .int (y : Nat)]) hp2
      have ec := Ex.new (o := .lst [.ref p2]) hp3
      have hin : inN n [(x, y)] := fun xy h => by
        rw [List.mem_singleton.mp h]
        exact ⟨⟨k1, k2⟩, k3, k4⟩
      refine ⟨n, a0, p3, p0, [.ref p2], [(x, y)], rfl, hn, st_of (ec _ _ (eb _ _ g2)), g3, sq_of upd_same, ⟨rfl, fun j v hv => ?_⟩, hin, fun r H9 e9 hr9 hr => ?_⟩
      · cases j with
        | zero =>
          cases hv
          exact ⟨p2, (x, y), rfl, rfl, st_of (ec _ _ upd_same)⟩
        | succ j => cases hv
      · have e10 := ((ea.trans eb).trans ec).trans e9
        have hD9 := e10 _ _ hDH
        refine ⟨_, rfl, _, rfl, D, _, rfl, DPut.k (k := .inr t) hD9 ?_, ?_⟩
        · unfold vK
          rw [List.length_map]
          exact sz_lt (by have := hk.1; omega)
        · rw [vK_put (p := mrgs p0 [(x, y)])]
          refine ⟨vPut W t r (mrgs p0 [(x, y)]), _, _, _, rfl, (e1.trans e10).mut hD, upd_same, ?_, Nat.le_trans vPut_len (by omega), ?_⟩
          · rw [← vW_put, htk]
            unfold knotV
            rw [← hW, ← g4]
            rfl
          · have hr' : H9 r = some (.tup (nvs (mrgs p0 [(x, y)]))) := hr
            have keep : ∀ {a : Addr} {xs : List V}, H9 a = some (.tup xs) → upd H9 D (.dK (vK (vPut W t r (mrgs p0 [(x, y)])))) a = some (.tup xs) := fun {a xs} h => by
              rw [upd_ne fun z => by rw [z, hD9] at h; cases h]
              exact h
            exact vPut_all (Pp := fun a p => upd H9 D (.dK (vK (vPut W t r (mrgs p0 [(x, y)])))) a = some (.tup (nvs p)) ∧ IsP n p) (fun e he => ⟨keep (e10 _ _ (hWe e he).1), (hWe e he).2⟩) ⟨keep hr', isP_mrgs g3 hin⟩
    · obtain ⟨W, y3, y4, y5, rfl, e1, hDH, hW, hWl, hWe⟩ := hp
      rw [List.take_of_length_le (by rw [hk.1]; exact Nat.le_refl _)] at hW
      exact ⟨_, rfl, q D _ e1 hD ⟨W, hDH, hW, hWe⟩⟩
end
end Eyes

set_option Elab.async false
set_option linter.all false
set_option maxRecDepth 100000
/-! Joining: row by row is as all at once. -/
namespace Eyes
open PySem PySem.Spec PyProof.Rows L2
end Eyes

set_option Elab.async false
set_option linter.all false
set_option maxRecDepth 100000
/-! What is_parting takes for a parting is one. -/
namespace Eyes
open PySem PySem.Spec PyProof.Rows L2
def ndats (p : List Nat) : List PyData := p.map fun x : Nat => PyData.int (x : Int)
theorem ndats_get {p : List Nat} {i x : Nat} (h : p[i]? = some x) : (ndats p)[i]? = some (.int (x : Int)) := by
  unfold ndats
  rw [List.getElem?_map, h]
  rfl
theorem reps_ndats {H : Hp} : ∀ p : List Nat, Reps H (nvs p) (ndats p)
  | [] => .nil
  | _ :: p => .cons (.int _) (reps_ndats p)
theorem shaped_ndats {p : List Nat} : ∀ e ∈ ndats p, SeqAt.shaped e = true := fun e he => by
  obtain ⟨x, _, rfl⟩ := List.mem_map.mp he
  rfl
theorem eqv_int {i j : Int} : PyData.eqv (.int i) (.int j) = decide (i = j) := by
  show (i == j) = decide (i = j)
  rw [Bool.eq_iff_iff]
  simp
theorem partD_of {n : Nat} {p : List Nat} (h : IsP n p) (h1 : 1 ≤ n) : partD (.tuple (ndats p)) = true := by
  show (decide (ndats p ≠ []) && (List.range (ndats p).length).all fun k => itemD (ndats p) k) = true
  have hl : (ndats p).length = n := by
    unfold ndats
    rw [List.length_map]
    exact h.len
  rw [Bool.and_eq_true, hl, List.all_eq_true]
  refine ⟨decide_eq_true fun z => by rw [z] at hl; simp at hl; omega, fun k hk => ?_⟩
  have hk := List.mem_range.mp hk
  have lo := h.lo (k + 1) (by omega) (by omega)
  have g := ndats_get (itm_get (p := p) (x := k + 1) (by omega) (by rw [h.len]; omega))
  rw [Nat.add_sub_cancel] at g
  have g2 := ndats_get (itm_get (p := p) (x := itm p (k + 1)) lo.1 (by rw [h.len]; omega))
  have e : (((itm p (k + 1) : Nat) : Int) - 1).toNat = itm p (k + 1) - 1 := by omega
  rw [itemD_int g (by
    show (decide ((1 : Int) ≤ (itm p (k + 1) : Nat)) && decide (((itm p (k + 1) : Nat) : Int) ≤ (k : Int) + 1)) = true
    rw [Bool.and_eq_true]
    exact ⟨decide_eq_true (by omega), decide_eq_true (by omega)⟩) (e := .int (itm p (itm p (k + 1)) : Nat)) (by rw [e]; exact g2), eqv_int, h.rt (k + 1) (by omega) (by omega)]
  exact decide_eq_true rfl
theorem partD_isP {d : PyData} (h : partD d = true) : ∃ p, d = .tuple (ndats p) ∧ 1 ≤ p.length ∧ IsP p.length p := by
  cases d with
  | tuple ds =>
    have h : (decide (ds ≠ []) && (List.range ds.length).all fun k => itemD ds k) = true := h
    rw [Bool.and_eq_true, List.all_eq_true] at h
    obtain ⟨h0, h⟩ := h
    have h0 : ds ≠ [] := of_decide_eq_true h0
    have one : ∀ k, k < ds.length → ∃ x : Nat, ds[k]? = some (.int (x : Int)) ∧ 1 ≤ x ∧ x ≤ k + 1 ∧ ∃ e, ds[x - 1]? = some e ∧ PyData.eqv e (.int (x : Int)) = true := fun k hk => by
      have hi := h k (List.mem_range.mpr hk)
      have hd : ds[k]? = some ds[k] := List.getElem?_eq_getElem hk
      generalize ds[k] = d at hd
      cases hn : numD d 1 ((k : Int) + 1) with
      | false =>
        rw [itemD_no hd hn] at hi
        cases hi
      | true =>
        cases d with
        | int i =>
          have h2 : (decide (1 ≤ i) && decide (i ≤ (k : Int) + 1)) = true := hn
          rw [Bool.and_eq_true] at h2
          have a1 := of_decide_eq_true h2.1
          have a2 := of_decide_eq_true h2.2
          have he : ds[(i - 1).toNat]? = some (ds[(i - 1).toNat]'(by omega)) := List.getElem?_eq_getElem _
          rw [itemD_int hd hn he] at hi
          refine ⟨i.toNat, by rw [hd, show ((i.toNat : Nat) : Int) = i by omega], by omega, by omega, _, by rw [show i.toNat - 1 = (i - 1).toNat by omega]; exact he, by rw [show ((i.toNat : Nat) : Int) = i by omega]; exact hi⟩
        | _ => cases hn
    have ex : ∃ p : List Nat, ds = ndats p := by
      refine ⟨ds.map fun d => match d with | .int i => i.toNat | _ => 0, ?_⟩
      unfold ndats
      rw [List.map_map]
      refine List.ext_getElem? fun k => ?_
      rw [List.getElem?_map]
      by_cases hk : k < ds.length
      · obtain ⟨x, hx, _⟩ := one k hk
        rw [hx]
        show _ = some (PyData.int (((x : Int).toNat : Nat) : Int))
        rw [show (((x : Int).toNat : Nat) : Int) = (x : Int) by omega]
      · rw [List.getElem?_eq_none (by omega)]
        rfl
    obtain ⟨p, rfl⟩ := ex
    have hl : (ndats p).length = p.length := List.length_map ..
    have two : ∀ x, 1 ≤ x → x ≤ p.length → 1 ≤ itm p x ∧ itm p x ≤ x ∧ itm p (itm p x) = itm p x := fun x h1 h2 => by
      obtain ⟨y, hy, y1, y2, e, he, hq⟩ := one (x - 1) (by rw [hl]; omega)
      have g := ndats_get (itm_get (p := p) (x := x) h1 h2)
      rw [g] at hy
      have hy := Option.some.inj hy
      injection hy with hy
      have hy : itm p x = y := Int.ofNat.inj hy
      subst hy
      have g2 := ndats_get (itm_get (p := p) (x := itm p x) y1 (by omega))
      rw [g2] at he
      obtain rfl := Option.some.inj he
      rw [eqv_int] at hq
      have hq := of_decide_eq_true hq
      exact ⟨y1, by omega, Int.ofNat.inj hq⟩
    refine ⟨p, rfl, ?_, rfl, fun x h1 h2 => ⟨(two x h1 h2).1, (two x h1 h2).2.1⟩, fun x h1 h2 => (two x h1 h2).2.2⟩
    cases p with
    | nil => exact absurd rfl h0
    | cons x p => exact Nat.succ_le_succ (Nat.zero_le _)
  | _ => cases h
end Eyes

set_option Elab.async false
set_option linter.all false
set_option maxRecDepth 100000
set_option maxHeartbeats 4000000
/-! What is seen of the views: the names in their order, without those that part nothing. -/
namespace Eyes
open PySem PySem.Spec PyProof.Rows L2 Evl TL
theorem shaped_tup (l : List Nat) : SeqAt.shaped (.tuple (ndats l)) = true := by
  have h := shaped_nats l
  unfold SeqAt.shaped at h ⊢
  exact h
theorem eqvAll_nats : ∀ p q : List Nat, PyData.eqvAll (ndats p) (ndats q) = decide (p = q)
  | [], [] => by
    rw [decide_eq_true rfl]
    rfl
  | [], y :: q => by
    rw [decide_eq_false (by simp)]
    rfl
  | x :: p, [] => by
    rw [decide_eq_false (by simp)]
    rfl
  | x :: p, y :: q => by
    show (((x : Int) == (y : Int)) && PyData.eqvAll (ndats p) (ndats q)) = _
    rw [eqvAll_nats p q]
    by_cases h : x = y
    · subst h
      simp
    · have h2 : ((x : Int) == (y : Int)) = false := by
        rw [beq_eq_false_iff_ne]
        exact fun z => h (Int.ofNat.inj z)
      rw [h2, Bool.false_and]
      exact (decide_eq_false (by simp [h])).symm
theorem eqv_tup (p q : List Nat) : PyData.eqv (.tuple (ndats p)) (.tuple (ndats q)) = decide (p = q) := eqvAll_nats p q
def seen1 (n : Nat) (f : Vw) (t : Str) : Option (Str × List Nat) := (wGet f t).bind fun p => if p = alone n then none else some (t, p)
def seenV (n : Nat) (f : Vw) (ys : List Str) : Vw := ys.filterMap (seen1 n f)
theorem wGet_mem {f : Vw} {t : Str} (h : t ∈ f.map (·.1)) : ∃ p, wGet f t = some p := by
  obtain ⟨e, he, rfl⟩ := List.mem_map.mp h
  unfold wGet
  cases hf : f.find? fun x => decide (x.1 = e.1) with
  | none =>
    have := List.find?_eq_none.mp hf e he
    simp at this
  | some x => exact ⟨x.2, rfl⟩
theorem wPut_new {f : Vw} {t : Str} {p : List Nat} (h : ∀ e ∈ f, e.1 ≠ t) : wPut f t p = f ++ [(t, p)] := by
  unfold wPut
  rw [if_neg]
  intro z
  obtain ⟨e, he, h2⟩ := List.any_eq_true.mp z
  exact h e he (of_decide_eq_true h2)
def spSeen (K : PySem.W.Frag) : Sp := fun vs H Q _ => ∃ (n : Nat) (l : Addr) (f : Vw), vs = [.int (n : Int), .ref l] ∧ n ≤ 4096 ∧ VwAt H l n f ∧ f.length < 64 ∧ (f.map (·.1)).Nodup ∧
  ∀ D H' ys, Ex H H' → H D = none → ys.Perm (f.map (·.1)) → sortedS ys = true → VwAt H' D n (seenV n f ys) → Q (.ref D) H'
section
variable {P : Program} {w : World} {K : PySem.W.Frag} {mg : Str → Option Value} {base : Heap} {AA : Adr}
theorem ok_law_seen (T : Txt K mg AA) : Pr P w K mg base "_law_seen" s_law_seen p_law_seen 4 (spSeen K) := by
  refine pr_mk T.f_law_seen sc_law_seen (fun vs H Q E h => ?_) (fun f cdv A outer s H vs Q E hr h => ?_)
  · obtain ⟨n, l, f, rfl, _⟩ := h
    rfl
  · obtain ⟨n, l, f, rfl, hn, ⟨W, hWl, hWf, hWe⟩, hfl, hnd, q⟩ := h
    refine ⟨_, (pss_cons (ps_set (i := 2) sc_law_seen.nd rfl (.inl rfl) pe_dnewK)
      (pss_cons (ps_for PassesOwn.never rfl (pi_list (pe_callB cr_sortedS (by rfl) T.n_sorted PyProof.Rows.boot_sorted (pa_cons (pe_callTy (call_list_dK rfl) (by rfl) T.n_list PyProof.Rows.boot_list (pa_cons (pv 1) pa_nil)) pa_nil))) (pg_name (i := 3) sc_law_seen.nd rfl (.inl rfl))
      (pss_one (ps_if (pt_cmpR (op_neD hr.units) (pe_dget (hu_of hr) (pv 1) (pv 3) (fun _ _ => rfl)) (pcall (ok_law_alone T) hr (pa_cons (pv 0) pa_nil)) (nomark _))
      (pss_one (ps_dput (hu_of hr) (pv 2) (pv 3) (pe_dget (hu_of hr) (pv 1) (pv 3) (fun _ _ => rfl)) rfl))
      pss_nil)))
      (pss_one (ps_ret (pv 2))))), ?_⟩
    refine fun D hD => ⟨_, rfl, l, _, rfl, Ex.new hD _ _ hWl, fun q1 hq1 => ?_⟩
    have e1 := Ex.new (o := .dK []) hD
    have hnm : (vK W).map (fun kv => kV kv.1) = (f.map (·.1)).map V.str := by
      rw [← hWf]
      unfold vK vW
      rw [List.map_map, List.map_map, List.map_map]
      rfl
    rw [hnm]
    have e2 := Ex.new (o := .lst ((f.map (·.1)).map V.str)) hq1
    refine ⟨q1, f.map (·.1), rfl, sq_of upd_same, by rw [List.length_map]; exact hfl, fun ys q2 hys hso hq2 => ?_⟩
    have e3 := Ex.new (o := .lst (ys.map V.str)) hq2
    have hD3 := e3 _ _ (e2 _ _ (upd_same (H := H) (a := D) (o := .dK [])))
    have e13 := (e1.trans e2).trans e3
    have hyn : ys.Nodup := hys.nodup_iff.mpr hnd
    refine ⟨q2, rfl, ⟨_, sq_of upd_same⟩, for_list (xs := ys.map V.str) (fun i σ H' => ∃ (W2 : List VRow) (y3 : Option V), σ = [some (.int (n : Int)), some (.ref l), some (.ref D), y3] ∧ Ex H H' ∧ H' q2 = some (.lst (ys.map V.str)) ∧ H' D = some (.dK (vK W2)) ∧ vW W2 = seenV n f (ys.take i) ∧ W2.length ≤ i ∧ (∀ e ∈ W2, e.1 ∈ ys.take i) ∧ ∀ e ∈ W2, H' e.2.1 = some (.tup (nvs e.2.2)) ∧ IsP n e.2.2) ⟨[], none, rfl, e13, upd_same, hD3, rfl, Nat.le_refl _, (fun e he => nomatch he), fun e he => nomatch he⟩ (fun i σ H' _ hp => ?_) (fun i u σ H' hu hp => ?_) (fun σ H' hp => ?_)⟩
    · obtain ⟨W2, y3, rfl, _, h2, _⟩ := hp
      exact sq_of h2
    · obtain ⟨W2, y3, rfl, x1, h2, h3, h4, h5, h6, h7⟩ := hp
      rw [List.getElem?_map] at hu
      obtain ⟨t, ht, rfl⟩ := Option.map_eq_some_iff.mp hu
      have hil : i < ys.length := (List.getElem?_eq_some_iff.mp ht).1
      have htm : t ∈ f.map (·.1) := hys.mem_iff.mp (List.mem_of_getElem? ht)
      obtain ⟨p, hp⟩ := wGet_mem htm
      have hp2 := hp
      rw [← hWf, vW_get] at hp2
      obtain ⟨e, he, hep⟩ := Option.map_eq_some_iff.mp hp2
      have hem := List.mem_of_find?_eq_some he
      have hget : valV (vK W) (.inr t) = some (.ref e.2.1) := by
        rw [vK_get]
        show Option.map _ (vGet W t) = _
        rw [he]
        rfl
      have htk : seenV n f (ys.take (i + 1)) = seenV n f (ys.take i) ++ (if p = alone n then [] else [(t, p)]) := by
        unfold seenV
        rw [List.take_add_one, ht, List.filterMap_append]
        refine congrArg (fun z => _ ++ z) ?_
        show List.filterMap _ [t] = _
        by_cases h : p = alone n
        · have z : seen1 n f t = none := by
            unfold seen1
            rw [hp]
            exact if_pos h
          rw [List.filterMap_cons_none z, if_pos h]
          rfl
        · have z : seen1 n f t = some (t, p) := by
            unfold seen1
            rw [hp]
            exact if_neg h
          rw [List.filterMap_cons_some z, if_neg h]
          rfl
      have heP : H' e.2.1 = some (.tup (nvs p)) := by
        rw [← hep]
        exact x1 _ _ (hWe e hem).1
      refine ⟨_, rfl, _, rfl, l, .ref e.2.1, rfl, by rw [← hget]; exact DGet.k (k := .inr t) (x1 _ _ hWl), _, rfl, n, rfl, hn, fun pa hpa => ?_⟩
      have ea := Ex.new (o := .tup (nvs (alone n))) hpa
      refine ⟨.tuple (ndats p), .tuple (ndats (alone n)), .tup (st_of (ea _ _ heP)) (dp_nats _), .tup (st_of upd_same) (dp_nats _), shaped_tup _, shaped_tup _, ?_⟩
      rw [eqv_tup]
      by_cases h : p = alone n
      · rw [decide_eq_true h]
        refine ⟨_, rfl, iteF ⟨W2, _, rfl, x1.trans ea, ea _ _ h2, ea _ _ h3, ?_, by omega, fun e he => ?_, fun e he => ⟨ea _ _ (h7 e he).1, (h7 e he).2⟩⟩⟩
        · rw [h4, htk, if_pos h, List.append_nil]
        · rw [List.take_add_one]
          exact List.mem_append_left _ (h6 e he)
      · rw [decide_eq_false h]
        have h3' := ea _ _ h3
        refine ⟨_, rfl, iteT ⟨_, rfl, _, rfl, l, .ref e.2.1, rfl, by rw [← hget]; exact DGet.k (k := .inr t) (ea _ _ (x1 _ _ hWl)), _, rfl, _, rfl, D, _, rfl, DPut.k (k := .inr t) h3' ?_, ?_⟩⟩
        · unfold vK
          rw [List.length_map]
          exact sz_lt (by have := hys.length_eq; rw [List.length_map] at this; omega)
        · rw [vK_put (p := p)]
          have hnew : ∀ x ∈ vW W2, x.1 ≠ t := fun x hx z => by
            obtain ⟨y, hy, rfl⟩ := List.mem_map.mp hx
            have hm := h6 y hy
            have hm : t ∈ ys.take i := by
              rw [← z]
              exact hm
            obtain ⟨j, hj, hjt⟩ := List.getElem_of_mem hm
            rw [List.getElem_take] at hjt
            have hji : j < i := by
              rw [List.length_take] at hj
              omega
            have e5 : ys[i] = t := by
              have := List.getElem?_eq_getElem hil
              rw [ht] at this
              exact (Option.some.inj this).symm
            exact List.pairwise_iff_getElem.mp hyn j i (by omega) hil hji (hjt.trans e5.symm)
          have keep : ∀ {a : Addr} {xs : List V}, upd H' pa (.tup (nvs (alone n))) a = some (.tup xs) → upd (upd H' pa (.tup (nvs (alone n)))) D (.dK (vK (vPut W2 t e.2.1 p))) a = some (.tup xs) := fun {a xs} g => by
            rw [upd_ne fun z => by rw [z, h3'] at g; cases g]
            exact g
          refine ⟨vPut W2 t e.2.1 p, _, rfl, (x1.trans ea).mut hD, ?_, upd_same, ?_, Nat.le_trans vPut_len (by omega), fun x hx => ?_, vPut_all (Pp := fun a p2 => upd (upd H' pa (.tup (nvs (alone n)))) D (.dK (vK (vPut W2 t e.2.1 p))) a = some (.tup (nvs p2)) ∧ IsP n p2) (fun x hx => ⟨keep (ea _ _ (h7 x hx).1), (h7 x hx).2⟩) ⟨keep (ea _ _ heP), by rw [← hep]; exact (hWe e hem).2⟩⟩
          · rw [upd_ne fun z => by rw [z, h3] at h2; cases h2]
            exact ea _ _ h2
          · rw [← vW_put, wPut_new hnew, h4, htk, if_neg h]
          · rw [List.take_add_one, ht]
            have : (x.1, x.2.2) ∈ vW (vPut W2 t e.2.1 p) := List.mem_map.mpr ⟨x, hx, rfl⟩
            rw [← vW_put, wPut_new hnew] at this
            rcases List.mem_append.mp this with g | g
            · obtain ⟨y, hy, z⟩ := List.mem_map.mp g
              have z1 : y.1 = x.1 := (Prod.mk.inj z).1
              exact List.mem_append_left _ (by rw [← z1]; exact h6 y hy)
            · have z1 : x.1 = t := (Prod.mk.inj (List.mem_singleton.mp g)).1
              rw [z1]
              exact List.mem_append_right _ List.mem_cons_self
    · obtain ⟨W2, y3, rfl, x1, h2, h3, h4, h5, h6, h7⟩ := hp
      rw [List.length_map, List.take_length] at h4
      exact ⟨_, rfl, q D _ ys x1 hD hys hso ⟨W2, h3, h4, h7⟩⟩
end
end Eyes

set_option Elab.async false
set_option linter.all false
set_option maxRecDepth 100000
set_option maxHeartbeats 4000000
/-! (x, ..) * 1 is the tuple itself. -/
namespace Eyes
open PySem PySem.Spec PyProof.Rows L2
def rRep1 (K : PySem.W.Frag) : R2 := fun x y H Q => ∃ l xs, x = .ref l ∧ y = .int 1 ∧ SqT K H l xs ∧ Q (.ref l) H
section
variable {X : Cx}
end
end Eyes

set_option Elab.async false
set_option linter.all false
set_option maxRecDepth 100000
set_option maxHeartbeats 8000000
/-! sorted(set(xs)), xs a list of numbers. -/
namespace Eyes
open PySem PySem.Spec PyProof.Rows L2
theorem ints_at : ∀ {us : List Value} {ks : List Int}, IntsAre us ks → ∀ {j : Nat} {v : Value}, us[j]? = some v → ∃ (k : Int) (t : Tok), ks[j]? = some k ∧ v = .int k t
  | _, _, .nil, _, _, e => by cases e
  | _, _, .cons k t r, 0, v, e => ⟨k, t, rfl, (Option.some.inj e).symm⟩
  | _, _, .cons k t r, j + 1, v, e => ints_at r (j := j) e
section
variable {P : Program} {w : World} {A : Around} {E : Value → Shared → Prop} {s : Shared}
theorem call_setI {l : Addr} {items : Array Value} {xs : List Int} {Q : Value → Shared → Prop} (hh : A.handled = none) (hl : s.heap.IsList l items) (hi : IntsAre items.toList xs) (hb : items.size + 1 < scanBound)
    (q : ∀ (h' : Heap) (tk c : Nat), SetR w h' s.heap.objs.size (fun j => decide (j ∈ xs)) c → c ≤ items.size → (∀ b o, b < s.heap.objs.size → s.heap.get? b = some o → h'.get? b = some o) → Q (.ref s.heap.objs.size) { s with heap := h', toks := tk }) :
    wpAny (model P w) A (call (.type "set") [.ref l]) Q E s := by
  obtain ⟨c, tl, hmro⟩ := PySem.F.called_set.mro
  have m1 := PySem.F.called_set.made; have m2 := PySem.F.called_set.sub
  refine wpAny_call (codeAny_of_tree ?_)
  show wpAny _ _ (callAny (.type "set") _) _ _ _
  refine wpAny_pure ⟨Code.quiet_builtin _ (by decide +kernel), codeAny_builtin F.entry_type_call ?_⟩
  rw [Around.under_plain (weight_type_call_type "set" [.ref l] []) rfl]
  have m3 := PySem.F.called_set.notType; have m4 := PySem.F.called_set.canCreate; have m5 := PySem.F.typeCall_set_1 (.ref l)
  repeat (any_goals (first | assumption | wp_step))
  refine codeAny_mono (new_set1 (.ref l) (E := E) (Q1 := fun ob s₁ => ob = .ref s.heap.objs.size ∧ s₁ = { s with heap := s.heap.push (noSet w) }) ⟨rfl, rfl⟩) fun r s₁ hr => ?_
  cases r with
  | error e => exact hr
  | ok fl =>
    cases fl with
    | ret ob =>
      obtain ⟨rfl, rfl⟩ := hr
      have hS : (s.heap.push (noSet w)).get? s.heap.objs.size = some (noSet w) := Heap.get?_push_size _ rfl
      have hT : Shared.TypeIs { s with heap := s.heap.push (noSet w) } (.ref s.heap.objs.size) "set" := ⟨_, hS, rfl⟩
      have n1 := PySem.F.called_set.init.lookup; have n2 := PySem.F.called_set.init.bind (.ref s.heap.objs.size)
      repeat (any_goals (first | assumption | wp_step))
      refine codeAny_mono (codeAny_call_builtin (R := wants (fun r s₂ => r = .none ∧ ∃ h' tk c, s₂ = { s with heap := h', toks := tk } ∧ SetR w h' s.heap.objs.size (fun j => decide (j ∈ xs)) c ∧ c ≤ items.size ∧
          (∀ b o, b < s.heap.objs.size → s.heap.get? b = some o → h'.get? b = some o)) E) PySem.F.called_set.init.plain PySem.F.entry_set_init (check_set_init_1 hT ?_)) fun r₂ s₂ hr₂ => ?_
      · obtain ⟨ol, hol, hcl, nl, hdl⟩ := hl
        obtain ⟨oc, od, odt, osl⟩ := ol
        simp only at hcl hdl
        subst hcl
        subst hdl
        have at1 : (s.heap.push (noSet w)).get? l = some { cls := .type "list", dict := od, data := .seq items nl, slots := osl } := Heap.get?_push_of_some _ hol
        have f1 := PySem.F.sub_list_set; have f2 := PySem.F.sub_list_frozenset
        have f3 : (Value.type "list" == Value.type "dict") = false := by decide
        have isL : (s.heap.push (noSet w)).IsList l items := ⟨_, at1, rfl, nl, rfl⟩
        unfold Builtin.«set.__init__» noKeywords Builtin.Frozenset.updateFrom
        generalize hPI : pyIter = PI
        wp_walk
        subst hPI
        refine wpAny_pyIter_list isL (wpAny_bind (wpAny_runValue ?_))
        have lS : l < s.heap.objs.size := Heap.lt_size hol
        have hh3 : A.in1.in1.in1.handled = none := by simp [hh]
        have neI : l ≠ (s.heap.push (noSet w)).objs.size := by
          rw [Heap.size_push]
          exact Nat.ne_of_lt (Nat.lt_succ_of_lt lS)
        have nin : s.heap.objs.size ∉ [(s.heap.push (noSet w)).objs.size, l] := by
          rw [Heap.size_push]
          simp only [List.mem_cons, List.mem_singleton, List.not_mem_nil, or_false, not_or]
          exact ⟨Nat.ne_of_lt (Nat.lt_succ_self _), Nat.ne_of_gt lS⟩
        have len : xs.length = items.size := by
          have z := IntsAre.length hi
          rw [Array.length_toList] at z
          exact z.symm
        have val : ∀ (i : Nat) (v : Value), items[i]? = some v → ∃ z t, xs[i]? = some z ∧ v = .int z t := fun i v hv => by
          obtain ⟨k, t, e1, e2⟩ := ints_at hi (by rw [Array.getElem?_toList]; exact hv)
          exact ⟨k, t, e1, e2⟩
        refine set_update_ints ((Walks.list hh3 _ l neI items).toS) s.heap.objs.size nin xs len.symm (by rw [len]; exact hb) val (items.size - 0) 0 _ (by omega) (Nat.zero_le _)
          ⟨⟨_, Heap.get?_push_size _ rfl, rfl, rfl⟩, (isL.push _)⟩ ⟨0, Nat.le_refl _, setR_new_at (Heap.get?_push_of_some _ hS)⟩ fun s' cc hm lL T => ?_
        obtain ⟨h', g', d', tk', os'⟩ := s'
        obtain rfl : g' = s.gens := hm.gens
        obtain rfl : d' = s.drawn := hm.drawn
        obtain rfl : os' = s.os := hm.os
        show wpAny _ _ _ _ _ _
        refine wpAny_pure ?_
        show wpAny _ _ (ret Value.none) _ _ _
        refine wpAny_pure ⟨rfl, h', tk', cc, rfl, T, lL, fun b o hb e => ?_⟩
        refine hm.heap b o ?_ (Heap.get?_push_of_some _ (Heap.get?_push_of_some _ e))
        rw [Heap.size_push]
        simp only [List.mem_cons, List.mem_singleton, List.not_mem_nil, or_false, not_or]
        exact ⟨Nat.ne_of_lt hb, Nat.ne_of_lt (Nat.lt_succ_of_lt hb)⟩
      · cases r₂ with
        | error e => exact hr₂
        | ok fl₂ =>
          cases fl₂ with
          | ret r =>
            obtain ⟨rfl, h', tk, cc, rfl, T, lL, kp⟩ := hr₂
            repeat (any_goals (first | assumption | wp_step))
            exact q _ _ _ T lL kp
          | _ => exact hr₂.elim
    | _ => exact hr.elim
end
def tSortedSetI (K : PySem.W.Frag) (te : TE) : TE := fun σ H Q => te σ H fun x H1 => ∃ (a : Addr) (xs : List Int), x = .ref a ∧ SqL K H1 a (xs.map V.int) ∧ xs.length < 64 ∧
  ∀ (ys : List Int) (p : Addr), ys.Pairwise (· < ·) → (∀ y, y ∈ ys ↔ y ∈ xs) → ys.length ≤ xs.length → H1 p = none → Q (.ref p) (upd H1 p (.lst (ys.map V.int)))
section
variable {X : Cx} {K : PySem.W.Frag} {e : Expr} {te : TE} {p1 p2 q1 q2 : Pos}
theorem pe_sortedSetI (hK : X.K = K) (hc : X.calm = true) (he : PE X e te) (hg1 : Gl X "sorted") (hm1 : X.mg "sorted" = none) (hg2 : Gl X "set") (hm2 : X.mg "set" = none)
    (hs : starEach [.Call (.Name "set" p2) [e] [] q2] X.env = (false, eval (.Call (.Name "set" p2) [e] [] q2) X.env) :: starEach [] X.env := by rfl)
    (hs2 : starEach [e] X.env = (false, eval e X.env) :: starEach [] X.env := by rfl) :
    PE X (.Call (.Name "sorted" p1) [.Call (.Name "set" p2) [e] [] q2] [] q1) (tSortedSetI K te) := by
  subst hK
  refine ⟨fun pins s σ H Q I h => ?_⟩
  refine wpAny_Call_Name_kw (ld_blt I hg1 hm1 PyProof.Rows.boot_sorted ?_)
  refine PyProof.Rows.callWith_builtin1 ?_ hs rfl
  rw [hs]
  refine Calls.spliced_cons ?_
  refine wpAny_Call_Name_kw (ld_blt I hg2 hm2 PyProof.Rows.boot_set ?_)
  refine PyProof.Rows.callWith_type1 ?_ hs2 rfl
  rw [hs2]
  refine Calls.spliced_cons (thn (he.run pins s σ H _ I h) fun u s1 ⟨x, H1, I1, rx, a, xs, ex, hl, hz, q⟩ => ?_)
  subst ex
  obtain rfl : u = Value.ref a := rx
  obtain ⟨its, rv, pl, _⟩ := I1.list hl
  have lx : xs.length = its.length := by
    have y := rv.length
    rw [List.length_map] at y
    exact y
  refine Calls.spliced_nil ?_
  have cm := I1.ok.hd hc
  refine call_setI cm pl.isList (xs := xs) (by simpa using rv.ints) (by rw [List.size_toArray, show scanBound = 4096 from rfl]; omega) fun h' tk cc T lL kp => ?_
  refine Calls.spliced_nil ?_
  have k1 : ∀ b o, s1.heap.get? b = some o → h'.get? b = some o := fun b o e => kp b o (Heap.lt_size e) e
  have nn : s1.heap.objs.size ≤ h'.objs.size := Nat.le_of_lt T.lt
  rw [List.size_toArray] at lL
  refine sorted_set (s := { s1 with heap := h', toks := tk }) T cm (by omega) fun s2 p out c ys k2 g2 o2 hp2 ho2 st so mm ll => ?_
  have kk : ∀ b o, s1.heap.get? b = some o → s2.heap.get? b = some o := fun b o e => k2 b o (k1 b o e)
  have np : s1.heap.objs.size ≤ p := Nat.le_trans nn hp2
  have fr : H1 p = none := I1.hok.fresh np
  have ly : (ys.map V.int).length ≤ sizeLine := by
    rw [List.length_map, ll, sizeLine_eq]
    omega
  have J : Inv X pins σ (upd H1 p (.lst (ys.map V.int))) { s1 with heap := s2.heap, gens := s2.gens, drawn := s2.drawn, toks := s2.toks } :=
    I1.call (ch := []) (Un.laid kk np fr) (I1.hok.laid kk np ⟨ly, out.toList, c, vals_of_ints st, ho2⟩) (by rw [g2]; exact I1.bare) (fun _ y => nomatch y)
  have es : s2 = { s1 with heap := s2.heap, gens := s2.gens, drawn := s2.drawn, toks := s2.toks } := by
    cases s2
    cases s1
    cases o2
    rfl
  rw [es]
  exact ⟨.ref p, _, J, rfl, q ys p so (fun y => by rw [mm]; exact decide_eq_true_iff) (by omega) fr⟩
end
end Eyes

set_option Elab.async false
set_option linter.all false
set_option maxRecDepth 100000
set_option maxHeartbeats 4000000
namespace Eyes
open PySem PySem.Spec PyProof.Rows L2 Evl TL
section
variable {X : Cx} {K : PySem.W.Frag} {o e : Expr} {es : List Expr} {to : TE} {t : TA} {name : Str} {apos cpos : Pos} {T id : String} {r : V → List V → Hp → VK → Prop}
end
theorem isP_snoc {k v : Nat} {p : List Nat} (h : IsP k p) (hv : v = k + 1 ∨ v ∈ p) : IsP (k + 1) (p ++ [v]) := by
  have it : ∀ x, 1 ≤ x → x ≤ k → itm (p ++ [v]) x = itm p x := fun x h1 h2 => by
    unfold itm
    rw [List.getD_eq_getElem?_getD, List.getD_eq_getElem?_getD, List.getElem?_append_left (by rw [h.len]; omega)]
  have il : itm (p ++ [v]) (k + 1) = v := by
    unfold itm
    rw [List.getD_eq_getElem?_getD, List.getElem?_append_right (by rw [h.len]; omega), h.len, Nat.add_sub_cancel, Nat.sub_self]
    rfl
  have hm : v = k + 1 ∨ (1 ≤ v ∧ v ≤ k ∧ itm p v = v) := by
    rcases hv with e | hv
    · exact .inl e
    · obtain ⟨i, hi⟩ := List.getElem?_of_mem hv
      have hl := (List.getElem?_eq_some_iff.mp hi).1
      rw [h.len] at hl
      have e : itm p (i + 1) = v := by
        unfold itm
        rw [List.getD_eq_getElem?_getD, Nat.add_sub_cancel, hi]
        rfl
      have lo := h.lo (i + 1) (by omega) (by omega)
      have rt := h.rt (i + 1) (by omega) (by omega)
      rw [e] at lo rt
      exact .inr ⟨lo.1, by omega, rt⟩
  refine ⟨by rw [List.length_append, h.len]; rfl, fun x h1 h2 => ?_, fun x h1 h2 => ?_⟩
  · rcases Nat.lt_or_ge k x with z | z
    · obtain rfl : x = k + 1 := by omega
      rw [il]
      omega
    · rw [it x h1 z]
      exact h.lo x h1 z
  · rcases Nat.lt_or_ge k x with z | z
    · obtain rfl : x = k + 1 := by omega
      rw [il]
      rcases hm with e | ⟨e1, e2, e3⟩
      · rw [e]
        rw [e] at il
        exact il
      · rw [it v e1 e2]
        exact e3
    · rw [it x h1 z]
      have lo := h.lo x h1 z
      rw [it _ lo.1 (by omega)]
      exact h.rt x h1 z
theorem isP_nil : IsP 0 [] := ⟨rfl, fun x h1 h2 => absurd h1 (by omega), fun x h1 h2 => absurd h1 (by omega)⟩
def pairsD (p q : List Nat) (n : Nat) : List PyData := (List.range n).map fun k => .tuple [.int (itm p (k + 1) : Int), .int (itm q (k + 1) : Int)]
def spMetL (K : PySem.W.Frag) : Sp := fun vs H Q _ => ∃ (n : Nat) (a b : Addr) (p q : List Nat), vs = [.ref a, .ref b] ∧ SqT K H a (nvs p) ∧ SqT K H b (nvs q) ∧ IsP n p ∧ IsP n q ∧ 1 ≤ n ∧ n ≤ 4096 ∧ ∀ r H', Ex H H' → H r = none → H' r = some (.tup (nvs (metN n [p, q]))) → Q (.ref r) H'
section
variable {P : Program} {w : World} {K : PySem.W.Frag} {mg : Str → Option Value} {base : Heap} {AA : Adr}
end
end Eyes

set_option Elab.async false
set_option linter.all false
set_option maxRecDepth 100000
set_option maxHeartbeats 4000000
/-! What the law sees of a circle. -/
namespace Eyes
open PySem PySem.Spec PyProof.Rows L2 Evl TL
def foldP (n : Nat) (k : Bool) : List (List Nat) → List Nat
  | [] => alone n
  | p :: r => r.foldl (fun a q => if k = true then metN n [a, q] else mrgs a (numd n q)) p
mutual
def viewC (n : Nat) (f : Vw) : Ci → List Nat
  | .eye t => (wGet f t).getD (alone n)
  | .node k ps => foldP n k (viewL n f ps)
def viewL (n : Nat) (f : Vw) : List Ci → List (List Nat)
  | [] => []
  | c :: r => viewC n f c :: viewL n f r
end
theorem VwAt.get {H : Hp} {D : Addr} {n : Nat} {f : Vw} (h : VwAt H D n f) (t : Str) : ∃ kvs, H D = some (.dK kvs) ∧ ∀ (r : Addr) (H' : Hp), Ex H H' → H' r = some (.tup (nvs (alone n))) → ∃ a, (valV kvs (.inr t)).getD (.ref r) = .ref a ∧ H' a = some (.tup (nvs ((wGet f t).getD (alone n)))) := by
  obtain ⟨W, h1, h2, h3⟩ := h
  refine ⟨_, h1, fun r H' e hr => ?_⟩
  rw [vK_get, ← h2, vW_get]
  cases hg : vGet W t with
  | none => exact ⟨r, rfl, hr⟩
  | some x => exact ⟨x.2.1, rfl, e _ _ (h3 x (List.mem_of_find?_eq_some hg)).1⟩
theorem VwAt.isP {H : Hp} {D : Addr} {n : Nat} {f : Vw} (h : VwAt H D n f) (t : Str) : IsP n ((wGet f t).getD (alone n)) := by
  obtain ⟨W, h1, h2, h3⟩ := h
  rw [← h2, vW_get]
  cases hg : vGet W t with
  | none => exact isP_alone n
  | some x => exact (h3 x (List.mem_of_find?_eq_some hg)).2
theorem foldP_isP {n : Nat} {k : Bool} : ∀ {ps : List (List Nat)}, (∀ p ∈ ps, IsP n p) → IsP n (foldP n k ps)
  | [], _ => isP_alone n
  | p :: r, h => by
    have key : ∀ (r : List (List Nat)) (p : List Nat), IsP n p → (∀ q ∈ r, IsP n q) → IsP n (r.foldl (fun a q => if k = true then metN n [a, q] else mrgs a (numd n q)) p) := fun r => by
      induction r with
      | nil => exact fun p hp _ => hp
      | cons q r ih =>
        intro p hp hr
        refine ih _ ?_ fun x hx => hr x (List.mem_cons_of_mem _ hx)
        split
        · exact metN_isP n _
        · exact isP_mrgs hp (numd_in (hr q List.mem_cons_self))
    exact key r p (h p List.mem_cons_self) fun q hq => h q (List.mem_cons_of_mem _ hq)
mutual
theorem viewC_isP {n : Nat} {f : Vw} (hf : ∀ t, IsP n ((wGet f t).getD (alone n))) : ∀ c : Ci, IsP n (viewC n f c)
  | .eye t => hf t
  | .node k ps => foldP_isP (viewL_isP hf ps)
theorem viewL_isP {n : Nat} {f : Vw} (hf : ∀ t, IsP n ((wGet f t).getD (alone n))) : ∀ ps : List Ci, ∀ p ∈ viewL n f ps, IsP n p
  | [], p, hp => by cases hp
  | c :: r, p, hp => by
    rcases List.mem_cons.mp (show p ∈ viewC n f c :: viewL n f r from hp) with rfl | hp
    · exact viewC_isP hf c
    · exact viewL_isP hf r p hp
end
def spView (K : PySem.W.Frag) (m : Nat) : Sp := fun vs H Q _ => ∃ (n : Nat) (l : Addr) (f : Vw) (v : V) (c : Ci), vs = [.int (n : Int), .ref l, v] ∧ 1 ≤ n ∧ n ≤ 4096 ∧ VwAt H l n f ∧ Rep H v c.data ∧ c.depth < m ∧ c.norm ∧ ∀ r H', Ex H H' → H' r = some (.tup (nvs (viewC n f c))) → Q (.ref r) H'
section
variable {P : Program} {w : World} {K : PySem.W.Frag} {mg : Str → Option Value} {base : Heap} {AA : Adr}
end
end Eyes

set_option Elab.async false
set_option linter.all false
/-! A sorted order of texts is the only one. -/
namespace Eyes
open PySem PySem.Spec PyProof.Rows
def leC (a b : List Nat) : Prop := ltCps b a = false
theorem ltC_total : ∀ a b : List Nat, ltCps a b = false → ltCps b a = false → a = b
  | [], [], _, _ => rfl
  | [], _ :: _, h, _ => by cases h
  | _ :: _, [], _, h => by cases h
  | x :: a, y :: b, h1, h2 => by
    have h1 : (decide (x < y) || (x == y && ltCps a b)) = false := h1
    have h2 : (decide (y < x) || (y == x && ltCps b a)) = false := h2
    obtain ⟨c1, d1⟩ := Bool.or_eq_false_iff.mp h1
    obtain ⟨c2, d2⟩ := Bool.or_eq_false_iff.mp h2
    have e1 := of_decide_eq_false c1
    have e2 := of_decide_eq_false c2
    obtain rfl : x = y := by omega
    rw [beq_self_eq_true, Bool.true_and] at d1 d2
    rw [ltC_total a b d1 d2]
theorem leC_trans : ∀ {a b c : List Nat}, leC a b → leC b c → leC a c
  | [], _, [], _, _ => rfl
  | [], _, _ :: _, _, _ => rfl
  | _ :: _, [], _, h, _ => by cases (show true = false from h)
  | _ :: _, _ :: _, [], _, h => by cases (show true = false from h)
  | x :: a, y :: b, z :: c, h1, h2 => by
    have h1 : (decide (y < x) || (y == x && ltCps b a)) = false := h1
    have h2 : (decide (z < y) || (z == y && ltCps c b)) = false := h2
    show (decide (z < x) || (z == x && ltCps c a)) = false
    obtain ⟨c1, d1⟩ := Bool.or_eq_false_iff.mp h1
    obtain ⟨c2, d2⟩ := Bool.or_eq_false_iff.mp h2
    have e1 := of_decide_eq_false c1
    have e2 := of_decide_eq_false c2
    refine Bool.or_eq_false_iff.mpr ⟨decide_eq_false (by omega), ?_⟩
    by_cases h : z = x
    · obtain rfl : y = x := by omega
      subst h
      rw [beq_self_eq_true, Bool.true_and] at d1 d2 ⊢
      exact leC_trans (a := a) (b := b) (c := c) d1 d2
    · rw [show (z == x) = false by simpa using h]
      rfl
theorem rising_pw : ∀ (p : Str) (l : List Str), risingS p l = true → (p :: l).Pairwise fun a b => leC a.cps.toList b.cps.toList
  | p, [], _ => List.pairwise_cons.mpr ⟨(fun _ h => nomatch h), .nil⟩
  | p, x :: r, h => by
    obtain ⟨h1, h2⟩ := Bool.and_eq_true_iff.mp (show (!ltCps x.cps.toList p.cps.toList && risingS x r) = true from h)
    have ih := rising_pw x r h2
    have hpx : leC p.cps.toList x.cps.toList := by
      unfold leC
      cases e : ltCps x.cps.toList p.cps.toList with
      | false => rfl
      | true => rw [e] at h1; cases h1
    refine List.pairwise_cons.mpr ⟨fun y hy => ?_, ih⟩
    rcases List.mem_cons.mp hy with rfl | hy
    · exact hpx
    · exact leC_trans hpx (List.rel_of_pairwise_cons ih hy)
theorem sortedS_pw : ∀ {l : List Str}, sortedS l = true → l.Pairwise fun a b => leC a.cps.toList b.cps.toList
  | [], _ => .nil
  | x :: r, h => rising_pw x r h
theorem str_cps {a b : Str} (h : a.cps.toList = b.cps.toList) : a = b := by
  cases a
  cases b
  exact congrArg _ (Array.toList_inj.mp h)
theorem srt_one : ∀ {l m : List Str}, l.Perm m → (l.Pairwise fun a b => leC a.cps.toList b.cps.toList) → (m.Pairwise fun a b => leC a.cps.toList b.cps.toList) → l = m
  | [], m, h, _, _ => (List.nil_perm.mp h).symm ▸ rfl
  | x :: l, [], h, _, _ => by cases (List.perm_nil.mp h)
  | x :: l, y :: m, h, h1, h2 => by
    have e : x = y := by
      have hx : x ∈ y :: m := h.mem_iff.mp List.mem_cons_self
      have hy : y ∈ x :: l := h.mem_iff.mpr List.mem_cons_self
      rcases List.mem_cons.mp hx with e | hx
      · exact e
      · rcases List.mem_cons.mp hy with e | hy
        · exact e.symm
        · exact str_cps (ltC_total _ _ (List.rel_of_pairwise_cons h2 hx) (List.rel_of_pairwise_cons h1 hy))
    subst e
    rw [srt_one (List.Perm.cons_inv h) (List.pairwise_cons.mp h1).2 (List.pairwise_cons.mp h2).2]
theorem sortedS_one {l m : List Str} (h : l.Perm m) (h1 : sortedS l = true) (h2 : sortedS m = true) : l = m := srt_one h (sortedS_pw h1) (sortedS_pw h2)
end Eyes

set_option Elab.async false
set_option linter.all false
set_option maxRecDepth 100000
set_option maxHeartbeats 4000000
namespace Eyes
open PySem PySem.Spec PyProof.Rows L2 Evl TL
theorem dc_by {J : It} {n : Nat} {GG : Hp → Prop} {Y : Nat → Hp → V → Hp → Prop} (w : Walk J n GG Y) {g : TG} {tt : L2.TT} {tk tv : TE} {vs : List Nat} {σ : L2.St} {H1 : Hp} {D : Addr} {Qd : Hp → Prop} (Pv : Nat → Hp → Prop) (h0 : Pv 0 (upd H1 D (.dK []))) (hG : ∀ i H, i ≤ n → Pv i H → GG H)
    (hs : ∀ i x H H', i < n → Pv i H → Y i H x H' → g x (wipe σ vs) H' fun σ2 H2 => wipe σ2 vs = wipe σ vs ∧ tt σ2 H2 fun b H3 =>
      if b = true then tk σ2 H3 fun y H4 => tv σ2 H4 fun z H5 => ∃ kvs k, y = kV k ∧ H5 D = some (.dK kvs) ∧ kvs.length < sizeLine ∧ Pv (i + 1) (upd H5 D (.dK (putK kvs k z))) else Pv (i + 1) H3) (hd : ∀ H, Pv n H → Qd H) :
    ∃ W : Nat → Nat → Hp → Prop, (∃ m, W 0 m (upd H1 D (.dK []))) ∧ ∀ i m H, W i m H →
      (J.stop i H ∧ Qd H) ∨ (J.go i H ∧ ∃ Nx : Hp → Prop, (∀ H', Nx H' → ∃ m', m' < m ∧ W (i + 1) m' H') ∧ ∀ x H', J.yld i H x H' → g x (wipe σ vs) H' fun σ2 H2 => wipe σ2 vs = wipe σ vs ∧ tt σ2 H2 fun b H3 =>
        if b = true then tk σ2 H3 fun y H4 => tv σ2 H4 fun z H5 => ∃ kvs k, y = kV k ∧ H5 D = some (.dK kvs) ∧ kvs.length < sizeLine ∧ Nx (upd H5 D (.dK (putK kvs k z))) else Nx H3) := by
  refine ⟨fun i m H => m = n - i ∧ i ≤ n ∧ Pv i H, ⟨n, rfl, Nat.zero_le _, h0⟩, ?_⟩
  rintro i m H ⟨rfl, hi, p⟩
  have q := hG i H hi p
  rcases Nat.lt_or_ge i n with hlt | hge
  · exact .inr ⟨w.goes i H hlt q, Pv (i + 1), fun H' p' => ⟨n - (i + 1), by omega, rfl, hlt, p'⟩, fun x H' y => hs i x H H' hlt p (w.yields i H x H' hlt q y)⟩
  · obtain rfl : i = n := Nat.le_antisymm hi hge
    exact .inl ⟨w.stops H q, hd H p⟩
theorem op_neDB {X : Cx} {K : PySem.W.Frag} (hK : X.K = K) (hu : X.A.units + 64 < cLine) : OpR X (compareOp .NotEq) (rNeD K) := hK ▸ op_neD hu
def spCounting (K : PySem.W.Frag) : Sp := fun vs H Q _ => ∃ (n : Nat) (l : Addr) (f : Vw), vs = [.int (n : Int), .ref l] ∧ n ≤ 4096 ∧ VwAt H l n f ∧ f.length < 64 ∧ (f.map (·.1)).Nodup ∧
  ∀ D H' ys, Ex H H' → H D = none → ys.Perm (f.map (·.1)) → sortedS ys = true → VwAt H' D n (seenV n f ys) → Q (.ref D) H'
def CtAt (H H' : Hp) (D : Addr) (n : Nat) (f : Vw) (ys : List Str) (i : Nat) : Prop := ∃ W2 : List VRow, Ex H H' ∧ H' D = some (.dK (vK W2)) ∧ vW W2 = seenV n f (ys.take i) ∧ W2.length ≤ i ∧ (∀ e ∈ W2, e.1 ∈ ys.take i) ∧ ∀ e ∈ W2, H' e.2.1 = some (.tup (nvs e.2.2)) ∧ IsP n e.2.2
section
variable {P : Program} {w : World} {K : PySem.W.Frag} {mg : Str → Option Value} {base : Heap} {AA : Adr}
theorem ok_counting (T : Txt K mg AA) : Pr P w K mg base "counting" s_counting p_counting 4 (spCounting K) := by
  refine pr_mk T.f_counting sc_counting (fun vs H Q E h => ?_) (fun f cdv A outer s H vs Q E hr h => ?_)
  · obtain ⟨n, l, f, rfl, _⟩ := h
    rfl
  · obtain ⟨n, l, f, rfl, hn, ⟨W, hWl, hWf, hWe⟩, hfl, hnd, q⟩ := h
    refine ⟨_, (pss_cons (ps_set (i := 2) sc_counting.nd rfl (.inr rfl) (pcall (ok_apart T) hr (pa_cons (pv 0) pa_nil)))
      (pss_one (ps_ret (pe_dc (own := [("name", 3)]) (g := gName 3) rfl sc_counting.nd (pi_list (pe_callB (call_sortedD rfl) (by rfl) T.n_sorted PyProof.Rows.boot_sorted (pa_cons (pv 1) pa_nil))) (blkOk_by (own := [("name", 3)]) (N := n_counting) (sc := defScope s_counting) (by decide +kernel)) (fun _ _ _ _ _ => (pg_name (i := 3) sc_counting.nd rfl (.inl rfl))) (fun _ _ _ _ _ => (pts_one (pt_cmpR (op_neDB (K := K) rfl hr.units) (pe_dget (hu_of hr) (pv 1) (pv 3) (fun _ _ => rfl)) (pv 2) (nomark _)))) (fun _ _ _ _ _ => (pv 3)) (fun _ _ _ _ _ => (pe_dget (hu_of hr) (pv 1) (pv 3) (fun _ _ => rfl))))))), ?_⟩
    refine ⟨_, rfl, n, rfl, hn, fun pa hpa => ?_⟩
    have e0 := Ex.new (o := .tup (nvs (alone n))) hpa
    have hal := upd_same (H := H) (a := pa) (o := HO.tup (nvs (alone n)))
    have hks : (vK W).map (·.1) = (f.map (·.1)).map Sum.inr := by
      rw [← hWf]
      unfold vK vW
      rw [List.map_map, List.map_map, List.map_map]
      rfl
    refine ⟨_, rfl, l, vK W, f.map (·.1), rfl, .inl (e0 _ _ hWl), hks, by rw [List.length_map]; exact hfl, fun ys q2 hys hso hq2 => ?_⟩
    have e1 := e0.trans (Ex.new (o := .lst (ys.map V.str)) hq2)
    have hal1 := Ex.new (o := .lst (ys.map V.str)) hq2 _ _ hal
    have hyn : ys.Nodup := hys.nodup_iff.mpr hnd
    refine ⟨q2, rfl, ⟨_, sq_of upd_same⟩, fun D hD => ?_⟩
    have hls := upd_same (H := upd H pa (.tup (nvs (alone n)))) (a := q2) (o := HO.lst (ys.map V.str))
    generalize upd (upd H pa (.tup (nvs (alone n)))) q2 (.lst (ys.map V.str)) = H1 at e1 hal1 hD hls ⊢
    clear hal e0 hpa hq2
    have hD0 := fresh_back e1 hD
    refine dc_by (walk_list (xs := ys.map V.str)) (fun i H' => Ex H1 H' ∧ CtAt H H' D n f ys i) ⟨Ex.new hD, [], e1.trans (Ex.new hD), upd_same, rfl, Nat.le_refl _, (fun e he => nomatch he), fun e he => nomatch he⟩ (fun i H' _ hp => sq_of (hp.1 _ _ hls)) (fun i u H3 H4 hi hp hy => ?_) (fun H' hp => ?_)
    · obtain ⟨rfl, hu⟩ := hy
      obtain ⟨x0, W2, x1, h3, h4, h5, h6, h7⟩ := hp
      rw [List.getElem?_map] at hu
      obtain ⟨t, ht, rfl⟩ := Option.map_eq_some_iff.mp hu
      have hil : i < ys.length := (List.getElem?_eq_some_iff.mp ht).1
      have htm : t ∈ f.map (·.1) := hys.mem_iff.mp (List.mem_of_getElem? ht)
      obtain ⟨p, hp⟩ := wGet_mem htm
      have hp2 := hp
      rw [← hWf, vW_get] at hp2
      obtain ⟨e, he, hep⟩ := Option.map_eq_some_iff.mp hp2
      have hem := List.mem_of_find?_eq_some he
      have hget : valV (vK W) (.inr t) = some (.ref e.2.1) := by
        rw [vK_get]
        show Option.map _ (vGet W t) = _
        rw [he]
        rfl
      have htk : seenV n f (ys.take (i + 1)) = seenV n f (ys.take i) ++ (if p = alone n then [] else [(t, p)]) := by
        unfold seenV
        rw [List.take_add_one, ht, List.filterMap_append]
        refine congrArg (fun z => _ ++ z) ?_
        show List.filterMap _ [t] = _
        by_cases h : p = alone n
        · have z : seen1 n f t = none := by
            unfold seen1
            rw [hp]
            exact if_pos h
          rw [List.filterMap_cons_none z, if_pos h]
          rfl
        · have z : seen1 n f t = some (t, p) := by
            unfold seen1
            rw [hp]
            exact if_neg h
          rw [List.filterMap_cons_some z, if_neg h]
          rfl
      have heP : H4 e.2.1 = some (.tup (nvs p)) := by
        rw [← hep]
        exact x1 _ _ (hWe e hem).1
      refine ⟨rfl, _, rfl, _, rfl, l, .ref e.2.1, rfl, by rw [← hget]; exact DGet.k (k := .inr t) (x1 _ _ hWl), _, rfl, .tuple (ndats p), .tuple (ndats (alone n)), .tup (st_of heP) (dp_nats _), .tup (st_of (x0 _ _ hal1)) (dp_nats _), shaped_tup _, shaped_tup _, ?_⟩
      rw [eqv_tup]
      by_cases h : p = alone n
      · rw [decide_eq_true h]
        refine ⟨_, rfl, iteF ⟨x0, W2, x1, h3, by rw [h4, htk, if_pos h, List.append_nil], by omega, fun e he => ?_, h7⟩⟩
        rw [List.take_add_one]
        exact List.mem_append_left _ (h6 e he)
      · rw [decide_eq_false h]
        have hnew : ∀ x ∈ vW W2, x.1 ≠ t := fun x hx z => by
          obtain ⟨y, hy, rfl⟩ := List.mem_map.mp hx
          have hm := h6 y hy
          have hm : t ∈ ys.take i := by
            rw [← z]
            exact hm
          obtain ⟨j, hj, hjt⟩ := List.getElem_of_mem hm
          rw [List.getElem_take] at hjt
          have hji : j < i := by
            rw [List.length_take] at hj
            omega
          have e5 : ys[i] = t := by
            have := List.getElem?_eq_getElem hil
            rw [ht] at this
            exact (Option.some.inj this).symm
          exact List.pairwise_iff_getElem.mp hyn j i (by omega) hil hji (hjt.trans e5.symm)
        have keep : ∀ {a : Addr} {xs : List V}, H4 a = some (.tup xs) → upd H4 D (.dK (vK (vPut W2 t e.2.1 p))) a = some (.tup xs) := fun {a xs} g => by
          rw [upd_ne fun z => by rw [z, h3] at g; cases g]
          exact g
        refine ⟨_, rfl, iteT ⟨_, rfl, _, rfl, _, rfl, l, .ref e.2.1, rfl, by rw [← hget]; exact DGet.k (k := .inr t) (x1 _ _ hWl), vK W2, .inr t, rfl, h3, ?_, ?_⟩⟩
        · unfold vK
          rw [List.length_map]
          exact sz_lt (by have := hys.length_eq; rw [List.length_map] at this; omega)
        · rw [vK_put (p := p)]
          refine ⟨x0.mut hD, vPut W2 t e.2.1 p, x1.mut hD0, upd_same, ?_, Nat.le_trans vPut_len (by omega), fun x hx => ?_, vPut_all (Pp := fun a p2 => upd H4 D (.dK (vK (vPut W2 t e.2.1 p))) a = some (.tup (nvs p2)) ∧ IsP n p2) (fun x hx => ⟨keep (h7 x hx).1, (h7 x hx).2⟩) ⟨keep heP, by rw [← hep]; exact (hWe e hem).2⟩⟩
          · rw [← vW_put, wPut_new hnew, h4, htk, if_neg h]
          · rw [List.take_add_one, ht]
            have : (x.1, x.2.2) ∈ vW (vPut W2 t e.2.1 p) := List.mem_map.mpr ⟨x, hx, rfl⟩
            rw [← vW_put, wPut_new hnew] at this
            rcases List.mem_append.mp this with g | g
            · obtain ⟨y, hy, z⟩ := List.mem_map.mp g
              have z1 : y.1 = x.1 := (Prod.mk.inj z).1
              exact List.mem_append_left _ (by rw [← z1]; exact h6 y hy)
            · have z1 : x.1 = t := (Prod.mk.inj (List.mem_singleton.mp g)).1
              rw [z1]
              exact List.mem_append_right _ List.mem_cons_self
    · obtain ⟨x0, W2, x1, h3, h4, h5, h6, h7⟩ := hp
      rw [List.length_map, List.take_length] at h4
      exact q D _ ys x1 hD0 hys hso ⟨W2, h3, h4, h7⟩
end
end Eyes

set_option Elab.async false
set_option linter.all false
set_option maxRecDepth 100000
set_option maxHeartbeats 4000000
/-! The program's own parting of ties: a table of names to pairs, then the pairs linked. -/
namespace Eyes
open PySem PySem.Spec PyProof.Rows L2 Evl TL
theorem nodup_inj {α β : Type} {f : α → β} : ∀ {l : List α}, (l.map f).Nodup → ∀ {x y : α}, x ∈ l → y ∈ l → f x = f y → x = y
  | [], _, x, _, hx, _, _ => nomatch hx
  | a :: l, h, x, y, hx, hy, e => by
    rw [List.map_cons, List.nodup_cons] at h
    rcases List.mem_cons.mp hx with h1 | h1
    · rcases List.mem_cons.mp hy with h2 | h2
      · rw [h1, h2]
      · exact absurd (List.mem_map.mpr ⟨y, h2, by rw [← e, h1]⟩) h.1
    · rcases List.mem_cons.mp hy with h2 | h2
      · exact absurd (List.mem_map.mpr ⟨x, h1, by rw [e, h2]⟩) h.1
      · exact nodup_inj h.2 h1 h2 e
theorem wPut_names {f : Vw} {t : Str} {p : List Nat} : (wPut f t p).map (·.1) = if t ∈ f.map (·.1) then f.map (·.1) else f.map (·.1) ++ [t] := by
  unfold wPut
  have e : ((f.any fun e => decide (e.1 = t)) = true) ↔ t ∈ f.map (·.1) := by
    rw [List.any_eq_true]
    constructor
    · rintro ⟨x, hx, h⟩
      exact List.mem_map.mpr ⟨x, hx, of_decide_eq_true h⟩
    · intro h
      obtain ⟨x, hx, h⟩ := List.mem_map.mp h
      exact ⟨x, hx, decide_eq_true h⟩
  by_cases h : t ∈ f.map (·.1)
  · rw [if_pos (e.mpr h), if_pos h, List.map_map]
    refine List.map_congr_left fun x _ => ?_
    show (if x.1 = t then (x.1, p) else x).1 = x.1
    split <;> rfl
  · rw [if_neg fun z => h (e.mp z), if_neg h, List.map_append]
    rfl
theorem knotsV_snoc {n : Nat} {ks : List Knot} {k : Knot} : knotsV n (ks ++ [k]) = knotV n (knotsV n ks) k := by
  unfold knotsV
  rw [List.foldl_append]
  rfl
theorem knotV_nodup {n : Nat} {f : Vw} {k : Knot} (h : (f.map (·.1)).Nodup) : ((knotV n f k).map (·.1)).Nodup := by
  unfold knotV
  rw [wPut_names]
  split
  · exact h
  · rename_i z
    refine List.nodup_append.mpr ⟨h, by simp, fun x hx y hy e => ?_⟩
    rw [List.mem_singleton.mp hy] at e
    rw [e] at hx
    exact z hx
theorem knotV_len {n : Nat} {f : Vw} {k : Knot} : (knotV n f k).length ≤ f.length + 1 := by
  have e : (knotV n f k).length = ((knotV n f k).map (·.1)).length := (List.length_map ..).symm
  rw [e]
  unfold knotV
  rw [wPut_names]
  split
  · rw [List.length_map]
    omega
  · rw [List.length_append, List.length_map]
    exact Nat.le_refl _
theorem knotsV_fold {n : Nat} : ∀ (ks : List Knot) (f : Vw), (f.map (·.1)).Nodup → ((ks.foldl (knotV n) f).map (·.1)).Nodup ∧ (ks.foldl (knotV n) f).length ≤ f.length + ks.length
  | [], f, h => ⟨h, Nat.le_refl _⟩
  | k :: ks, f, h => by
    have a := knotsV_fold (n := n) ks (knotV n f k) (knotV_nodup h)
    refine ⟨a.1, ?_⟩
    have := knotV_len (n := n) (f := f) (k := k)
    have := a.2
    show (ks.foldl (knotV n) (knotV n f k)).length ≤ _
    rw [List.length_cons]
    omega
theorem knotsV_nodup (n : Nat) (ks : List Knot) : ((knotsV n ks).map (·.1)).Nodup := (knotsV_fold ks [] List.nodup_nil).1
theorem knotsV_len (n : Nat) (ks : List Knot) : (knotsV n ks).length ≤ ks.length := by
  have := (knotsV_fold (n := n) ks [] List.nodup_nil).2
  rw [List.length_nil, Nat.zero_add] at this
  exact this
theorem knotsV_names {n : Nat} {ks : List Knot} {t : Str} : t ∈ (knotsV n ks).map (·.1) → ∃ k ∈ ks, k.1 = t := by
  have key : ∀ (ks : List Knot) (f : Vw), t ∈ (ks.foldl (knotV n) f).map (·.1) → t ∈ f.map (·.1) ∨ ∃ k ∈ ks, k.1 = t := by
    intro ks
    induction ks with
    | nil => exact fun f h => .inl h
    | cons k ks ih =>
      intro f h
      rcases ih _ h with h | ⟨x, hx, e⟩
      · unfold knotV at h
        rw [wPut_names] at h
        split at h
        · exact .inl h
        · rcases List.mem_append.mp h with h | h
          · exact .inl h
          · exact .inr ⟨k, List.mem_cons_self, (List.mem_singleton.mp h).symm⟩
      · exact .inr ⟨x, List.mem_cons_of_mem _ hx, e⟩
  exact fun h => (key ks [] h).resolve_left fun z => nomatch z
def TdRow (H : Hp) (n m : Nat) (e : VRow) : Prop := ∃ (us : List V) (l : List (Nat × Nat)), H e.2.1 = some (.lst us) ∧ us.length = l.length ∧ us.length ≤ m ∧ (∀ (i : Nat) v, us[i]? = some v → ∃ q xy, v = .ref q ∧ l[i]? = some xy ∧ H q = some (.tup [.int (xy.1 : Nat), .int (xy.2 : Nat)])) ∧ inN n l ∧ e.2.2 = mrgs (alone n) l
theorem TdRow.keep {H H' : Hp} {n m m' : Nat} {e : VRow} (h : TdRow H n m e) (h1 : ∀ us, H e.2.1 = some (.lst us) → H' e.2.1 = some (.lst us)) (h2 : ∀ q xs, H q = some (.tup xs) → H' q = some (.tup xs)) (hm : m ≤ m') : TdRow H' n m' e := by
  obtain ⟨us, l, a1, a2, a3, a4, a5, a6⟩ := h
  exact ⟨us, l, h1 _ a1, a2, Nat.le_trans a3 hm, fun i v hv => by
    obtain ⟨q, xy, e1, e2, e3⟩ := a4 i v hv
    exact ⟨q, xy, e1, e2, h2 _ _ e3⟩, a5, a6⟩
def TdAt (H H' : Hp) (D : Addr) (n m : Nat) (f : Vw) (W : List VRow) : Prop := Ex H H' ∧ H' D = some (.dK (vK W)) ∧ vW W = f ∧ W.length ≤ m ∧ (W.map (·.2.1)).Nodup ∧ ∀ e ∈ W, H e.2.1 = none ∧ e.2.1 ≠ D ∧ TdRow H' n m e
theorem vGet_name {W : List VRow} {t : Str} {e : VRow} (h : vGet W t = some e) : e.1 = t := by
  have := List.find?_some h
  exact of_decide_eq_true this
theorem vK_same {W : List VRow} {t : Str} {e : VRow} {p : List Nat} (h : vGet W t = some e) (nd : (W.map (·.1)).Nodup) : vK (vPut W t e.2.1 p) = vK W := by
  have he : e ∈ W := List.mem_of_find?_eq_some h
  have ht : e.1 = t := by
    have := List.find?_some h
    exact of_decide_eq_true this
  unfold vPut
  rw [if_pos (List.any_eq_true.mpr ⟨e, he, decide_eq_true ht⟩)]
  unfold vK
  rw [List.map_map]
  refine List.map_congr_left fun x hx => ?_
  by_cases hxt : x.1 = t
  · have : x = e := nodup_inj nd hx he (hxt.trans ht.symm)
    subst this
    simp [hxt]
  · simp [hxt]
theorem vGet_none {W : List VRow} {t : Str} (h : vGet W t = none) : ∀ x ∈ W, x.1 ≠ t := fun x hx z => by
  have := List.find?_eq_none.mp h x hx
  exact this (decide_eq_true z)
theorem vPut_new {W : List VRow} {t : Str} {a : Addr} {p : List Nat} (h : ∀ x ∈ W, x.1 ≠ t) : vPut W t a p = W ++ [(t, a, p)] := by
  unfold vPut
  rw [if_neg]
  intro z
  obtain ⟨e, he, h2⟩ := List.any_eq_true.mp z
  exact h e he (of_decide_eq_true h2)
def spTied (K : PySem.W.Frag) : Sp := fun vs H Q _ => ∃ (n : Nat) (a : Addr) (us : List V) (ks : List Knot), vs = [.int (n : Int), .ref a] ∧ n ≤ 4096 ∧ SqLT K H a us ∧ Knots H us ks ∧ ks.length ≤ 1000 ∧ (∀ k ∈ ks, 1 ≤ k.2.1 ∧ k.2.1 ≤ n ∧ 1 ≤ k.2.2 ∧ k.2.2 ≤ n) ∧
  ∀ D H', Ex H H' → H D = none → VwAt H' D n (knotsV n ks) → Q (.ref D) H'
section
variable {P : Program} {w : World} {K : PySem.W.Frag} {mg : Str → Option Value} {base : Heap} {AA : Adr}
theorem ok_tied_partings (T : Txt K mg AA) : Pr P w K mg base "tied_partings" s_tied_partings p_tied_partings 4 (spTied K) := by
  refine pr_mk T.f_tied_partings sc_tied_partings (fun vs H Q E h => ?_) (fun f cdv A outer s H vs Q E hr h => ?_)
  · obtain ⟨n, a, us, ks, rfl, _⟩ := h
    rfl
  · obtain ⟨n, a, us, ks, rfl, hn, ha, hk, hkl, hks, q⟩ := h
    refine ⟨_, (pss_cons (ps_set (i := 2) sc_tied_partings.nd rfl (.inr rfl) pe_dnewK)
      (pss_cons (ps_for PassesOwn.never rfl (pi_or (pi_list (pv 1)) (pi_tup (pv 1))) (pg_tup (by rfl) (pgs_cons (pg_name (i := 3) sc_tied_partings.nd rfl (.inl rfl)) (pgs_cons (pg_name (i := 4) sc_tied_partings.nd rfl (.inl rfl)) (pgs_cons (pg_name (i := 5) sc_tied_partings.nd rfl (.inl rfl)) pgs_nil))))
      (pss_one (ps_expr (pe_bm PySem.F.plainAttrs_list PySem.F.slot_list_append PySem.F.type_list_append mt_append (pe_dsetdA hr.units (pv 2) (pv 3) (pe_lst pa_nil) ⟨by rfl, by rfl, by rfl, by rfl⟩) (pa_cons (pe_tup (pa_cons (pv 4) (pa_cons (pv 5) pa_nil))) pa_nil)))))
      (pss_one (ps_ret (pe_lock (pe_dc (own := [("name", 3)]) (g := gName 3) (tt := tYes) rfl sc_tied_partings.nd (pi_keys (pv 2)) (blkOk_by (own := [("name", 3)]) (N := n_tied_partings) (sc := defScope s_tied_partings) (by decide +kernel)) (fun _ _ _ _ _ => (pg_name (i := 3) sc_tied_partings.nd rfl (.inl rfl))) (fun _ _ _ _ _ => pts_nil) (fun _ _ _ _ _ => (pv 3)) (fun _ _ _ _ _ => (pcall (ok_linked T) hr (pa_cons (pv 0) (pa_cons (pe_dget (hu_of hr) (pv 2) (pv 3) (fun _ _ => rfl)) pa_nil)))))))))), ?_⟩
    refine fun D hD => ?_
    refine for_lt (j := 1) rfl ha (Ex.new (o := .dK []) hD) (fun i σ H' => ∃ (W : List VRow) (y3 y4 y5 : Option V), σ = [some (.int (n : Int)), some (.ref a), some (.ref D), y3, y4, y5] ∧ TdAt H H' D n i (knotsV n (ks.take i)) W) ⟨[], none, none, none, rfl, Ex.new hD, upd_same, rfl, Nat.le_refl _, List.nodup_nil, fun e he => nomatch he⟩ (fun i σ H' hp => ?_) (fun i u σ H' hu hp => ?_) (fun σ H' hp => ?_) (fun _ _ => rfl)
    · obtain ⟨W, y3, y4, y5, rfl, e, _⟩ := hp
      exact e
    · obtain ⟨W, y3, y4, y5, rfl, e1, hDH, hW, hWl, hWn, hWe⟩ := hp
      have hi : i < us.length := (List.getElem?_eq_some_iff.mp hu).1
      have hik : i < ks.length := by rw [← hk.1]; exact hi
      obtain ⟨p, rfl, hp⟩ := hk.2 i u ks[i] hu (List.getElem?_eq_getElem hik)
      have hkn := hks ks[i] (List.getElem_mem hik)
      have htk : knotsV n (ks.take (i + 1)) = knotV n (knotsV n (ks.take i)) ks[i] := by
        rw [List.take_add_one, List.getElem?_eq_getElem hik]
        exact knotsV_snoc
      have hnn : (W.map (·.1)).Nodup := by
        have h := knotsV_nodup n (ks.take i)
        rw [← hW] at h
        unfold vW at h
        rw [List.map_map] at h
        exact h
      generalize ks[i] = k at hkn htk hp ⊢
      obtain ⟨t, x, y⟩ := k
      obtain ⟨k1, k2, k3, k4⟩ := hkn
      have hin : inN n [(x, y)] := fun xy h => by
        rw [List.mem_singleton.mp h]
        exact ⟨⟨k1, k2⟩, k3, k4⟩
      refine ⟨p, _, rfl, st_of (e1 _ _ hp), rfl, _, _, rfl, _, _, rfl, _, _, rfl, rfl, ?_⟩
      refine ⟨_, rfl, D, rfl, .inl ⟨_, .inl hDH⟩, _, rfl, by show 0 ≤ sizeLine; decide, fun nb hnb => ?_⟩
      have x2 : Ex H' (upd H' nb (.lst [])) := Ex.new hnb
      have hD4 := x2 _ _ hDH
      have e4 := e1.trans x2
      have nbH : H nb = none := fresh_back e1 hnb
      have nbD : nb ≠ D := fun z => by
        rw [z, hDH] at hnb
        cases hnb
      refine .inl ⟨_, Sum.inr t, hD4, rfl, ?_, fun v hv => ?_, fun hv => ?_⟩
      · unfold vK
        rw [List.length_map]
        exact sz_lt (by have := hk.1; omega)
      · rw [vK_get] at hv
        obtain ⟨e, he, rfl⟩ := Option.map_eq_some_iff.mp hv
        have hem := List.mem_of_find?_eq_some he
        have het : e.1 = t := vGet_name he
        obtain ⟨c1, c2, us0, l0, c3, c4, c5, c6, c7, c8⟩ := hWe e hem
        have c3' := x2 _ _ c3
        refine ⟨.inl ⟨rfl, us0, sq_of c3'⟩, _, rfl, _, rfl, by show 2 ≤ sizeLine; decide, fun p2 hp2 => ?_⟩
        have x3 := Ex.new (o := .tup [.int (x : Nat), .int (y : Nat)]) hp2
        have c3'' := x3 _ _ c3'
        have hp2e : p2 ≠ e.2.1 := fun z => by
          rw [z, c3'] at hp2
          cases hp2
        refine ⟨e.2.1, us0, _, rfl, rfl, c3'', sz_lt (by have := hk.1; omega), vPut W t e.2.1 (mrgs (alone n) (l0 ++ [(x, y)])), _, _, _, rfl, (e4.trans x3).mut c1, ?_, ?_, Nat.le_trans vPut_len (by omega), ?_, fun r hr => ?_⟩
        · rw [vK_same he hnn, upd_ne fun z => c2 z.symm]
          exact x3 _ _ hD4
        · rw [← vW_put, htk]
          unfold knotV
          rw [← hW, vW_get, he]
          show _ = wPut _ t (mrg1 e.2.2 x y)
          rw [c8, mrgs_snoc]
        · have ha : (vPut W t e.2.1 (mrgs (alone n) (l0 ++ [(x, y)]))).map (·.2.1) = W.map (·.2.1) := by
            have h := vK_same (p := mrgs (alone n) (l0 ++ [(x, y)])) he hnn
            have h2 := congrArg (List.map Prod.snd) h
            unfold vK at h2
            rw [List.map_map, List.map_map] at h2
            have h3 : ((vPut W t e.2.1 (mrgs (alone n) (l0 ++ [(x, y)]))).map (·.2.1)).map V.ref = (W.map (·.2.1)).map V.ref := by
              rw [List.map_map, List.map_map]
              exact h2
            exact List.map_inj_right (fun a b h => V.ref.inj h) |>.mp h3
          rw [ha]
          exact hWn
        · unfold vPut at hr
          rw [if_pos (List.any_eq_true.mpr ⟨e, hem, decide_eq_true het⟩)] at hr
          obtain ⟨r0, hr0, rfl⟩ := List.mem_map.mp hr
          by_cases hrt : r0.1 = t
          · rw [if_pos hrt]
            refine ⟨c1, c2, us0 ++ [.ref p2], l0 ++ [(x, y)], upd_same, by rw [List.length_append, List.length_append, c4]; rfl, by rw [List.length_append]; show us0.length + 1 ≤ i + 1; omega, fun j v hv => ?_, fun z hz => ?_, rfl⟩
            · have keep : ∀ {q xs}, (upd (upd H' nb (.lst [])) p2 (.tup [.int (x : Nat), .int (y : Nat)])) q = some (HO.tup xs) → (upd (upd (upd H' nb (.lst [])) p2 (.tup [.int (x : Nat), .int (y : Nat)])) e.2.1 (.lst (us0 ++ [.ref p2]))) q = some (.tup xs) := fun {q xs} h => by
                rw [upd_ne fun z => by rw [z, c3''] at h; cases h]
                exact h
              by_cases hj : j < us0.length
              · rw [List.getElem?_append_left hj] at hv
                obtain ⟨q, xy, d1, d2, d3⟩ := c6 j v hv
                exact ⟨q, xy, d1, by rw [List.getElem?_append_left (by rw [← c4]; exact hj)]; exact d2, keep (x3 _ _ (x2 _ _ d3))⟩
              · have hl := (List.getElem?_eq_some_iff.mp hv).1
                rw [List.length_append] at hl
                have hl : j < us0.length + 1 := hl
                have ej : j = us0.length := by omega
                subst ej
                rw [List.getElem?_append_right (Nat.le_refl _), Nat.sub_self] at hv
                obtain rfl := Option.some.inj hv
                exact ⟨p2, (x, y), rfl, by rw [List.getElem?_append_right (by rw [c4]; exact Nat.le_refl _), c4, Nat.sub_self]; rfl, keep upd_same⟩
            · rcases List.mem_append.mp hz with hz | hz
              · exact c7 z hz
              · exact hin z hz
          · rw [if_neg hrt]
            obtain ⟨d1, d2, d3⟩ := hWe r0 hr0
            have hne : r0.2.1 ≠ e.2.1 := fun z => hrt (by rw [nodup_inj hWn hr0 hem z, het])
            refine ⟨d1, d2, d3.keep (fun us h => ?_) (fun q xs h => ?_) (Nat.le_succ _)⟩
            · rw [upd_ne hne]
              exact x3 _ _ (x2 _ _ h)
            · have h := x3 _ _ (x2 _ _ h)
              rw [upd_ne fun z => by rw [z, c3''] at h; cases h]
              exact h
      · rw [vK_get] at hv
        have hg : vGet W t = none := by
          cases h : vGet W t with
          | none => rfl
          | some e =>
            rw [h] at hv
            cases hv
        have hnew := vGet_none hg
        have h5 : ∀ {ob}, (upd (upd H' nb (.lst [])) D ob) nb = some (.lst []) := (upd_ne nbD).trans upd_same
        refine ⟨.inl ⟨rfl, _, sq_of h5⟩, _, rfl, _, rfl, by show 2 ≤ sizeLine; decide, fun p2 hp2 => ?_⟩
        have x3 := Ex.new (o := .tup [.int (x : Nat), .int (y : Nat)]) hp2
        have hD5 : (upd (upd H' nb (.lst [])) D (.dK (putK (vK W) (.inr t) (.ref nb)))) D = some (.dK (putK (vK W) (.inr t) (.ref nb))) := upd_same
        have p2n : p2 ≠ nb := fun z => by
          rw [z, h5] at hp2
          cases hp2
        have p2D : p2 ≠ D := fun z => by
          rw [z, hD5] at hp2
          cases hp2
        refine ⟨nb, [], _, rfl, rfl, x3 _ _ h5, by show 0 < sizeLine; decide, vPut W t nb (mrgs (alone n) [(x, y)]), _, _, _, rfl, ((e4.mut hD).trans x3).mut nbH, ?_, ?_, Nat.le_trans vPut_len (by omega), ?_, fun r hr => ?_⟩
        · rw [upd_ne fun z => nbD z.symm, upd_ne fun z => p2D z.symm, upd_same, vK_put]
        · rw [← vW_put, htk]
          unfold knotV
          rw [← hW, vW_get, hg]
          rfl
        · rw [vPut_new hnew, List.map_append]
          refine List.nodup_append.mpr ⟨hWn, by simp, fun a ha b hb z => ?_⟩
          obtain ⟨r, hr, rfl⟩ := List.mem_map.mp ha
          obtain ⟨_, _, us0, l0, c3, _⟩ := hWe r hr
          have hb : b = nb := List.mem_singleton.mp hb
          rw [z, hb, hnb] at c3
          cases c3
        · rw [vPut_new hnew] at hr
          rcases List.mem_append.mp hr with hr | hr
          · obtain ⟨d1, d2, d3⟩ := hWe r hr
            have hne : r.2.1 ≠ nb := fun z => by
              obtain ⟨us0, l0, c3, _⟩ := d3
              rw [z, hnb] at c3
              cases c3
            refine ⟨d1, d2, d3.keep (fun us h => ?_) (fun q xs h => ?_) (Nat.le_succ _)⟩
            · rw [upd_ne hne]
              exact x3 _ _ ((upd_ne d2).trans (x2 _ _ h))
            · have h1 : q ≠ D := fun z => by
                rw [z, hDH] at h
                cases h
              have h2 : q ≠ nb := fun z => by
                rw [z, hnb] at h
                cases h
              rw [upd_ne h2]
              exact x3 _ _ ((upd_ne h1).trans (x2 _ _ h))
          · rw [List.mem_singleton.mp hr]
            refine ⟨nbH, nbD, [.ref p2], [(x, y)], upd_same, rfl, by show 1 ≤ i + 1; omega, fun j v hv => ?_, hin, rfl⟩
            cases j with
            | zero =>
              cases hv
              exact ⟨p2, (x, y), rfl, rfl, (upd_ne p2n).trans upd_same⟩
            | succ j => cases hv
    · obtain ⟨W, y3, y4, y5, rfl, e1, hDH, hW, hWl, hWn, hWe⟩ := hp
      rw [List.take_of_length_le (by rw [hk.1]; exact Nat.le_refl _)] at hW
      refine ⟨D, _, hDH, True.intro, fun od => ?_⟩
      have hDs : upd H' D (.frz od (.dK (vK W))) D = some (.frz od (.dK (vK W))) := upd_same
      have es : Ex H (upd H' D (.frz od (.dK (vK W)))) := e1.mut hD
      have hrow : ∀ e ∈ W, ∃ (us : List V) (l : List (Nat × Nat)), upd H' D (.frz od (.dK (vK W))) e.2.1 = some (.lst us) ∧ Prs K (upd H' D (.frz od (.dK (vK W)))) us l ∧ inN n l ∧ e.2.2 = mrgs (alone n) l := fun e he => by
        obtain ⟨c1, c2, us0, l0, c3, c4, c5, c6, c7, c8⟩ := hWe e he
        refine ⟨us0, l0, (upd_ne c2).trans c3, ⟨c4, fun i v hv => ?_⟩, c7, c8⟩
        obtain ⟨q, xy, d1, d2, d3⟩ := c6 i v hv
        exact ⟨q, xy, d1, d2, st_of ((upd_ne fun z => by rw [z, hDH] at d3; cases d3).trans d3)⟩
      have hnn : (W.map (·.1)).Nodup := by
        have h := knotsV_nodup n ks
        rw [← hW] at h
        unfold vW at h
        rw [List.map_map] at h
        exact h
      generalize hHs : upd H' D (.frz od (.dK (vK W))) = Hs at hDs es hrow ⊢
      refine ⟨_, rfl, D, od, rfl, .inl ⟨vK W, hDs, fun D2 hD2 => ?_⟩⟩
      have hD2D : D2 ≠ D := fun z => by
        rw [z, hDs] at hD2
        cases hD2
      have hvl : (vK W).length = W.length := by
        unfold vK
        rw [List.length_map]
      refine dc_by (walk_keys (kvs := vK W)) (fun i H2 => ∃ W2 : List VRow, Ex Hs H2 ∧ H2 D2 = some (.dK (vK W2)) ∧ vW W2 = (vW W).take i ∧ W2.length ≤ i ∧ ∀ e ∈ W2, H2 e.2.1 = some (.tup (nvs e.2.2)) ∧ IsP n e.2.2) ⟨[], Ex.new hD2, upd_same, rfl, Nat.le_refl _, fun e he => nomatch he⟩ (fun i H2 _ hp => ?_) (fun i u H3 H4 hi hp hy => ?_) (fun H2 hp => ?_)
      · obtain ⟨W2, x1, _⟩ := hp
        exact x1 _ _ hDs
      · obtain ⟨rfl, kk, vv, hu, rfl⟩ := hy
        obtain ⟨W2, x1, h2, h3, h4, h5⟩ := hp
        unfold vK at hu
        rw [List.getElem?_map] at hu
        obtain ⟨e, he, hev⟩ := Option.map_eq_some_iff.mp hu
        obtain ⟨rfl, rfl⟩ := Prod.mk.inj hev
        have hem := List.mem_of_getElem? he
        obtain ⟨us0, l0, c1, c2, c3, c4⟩ := hrow e hem
        have hil : i < W.length := by rw [← hvl]; exact hi
        have hget : valV (vK W) (.inr e.1) = some (.ref e.2.1) := by
          rw [vK_get]
          cases hg : vGet W e.1 with
          | none => exact absurd rfl (vGet_none hg e hem)
          | some e2 =>
            have h1 : e2.1 = e.1 := vGet_name hg
            rw [nodup_inj hnn (List.mem_of_find?_eq_some hg) hem h1]
            rfl
        refine ⟨rfl, _, rfl, _, rfl, _, rfl, _, rfl, D, .ref e.2.1, rfl, ?_, n, e.2.1, us0, l0, rfl, hn, .inl (sq_of (x1 _ _ c1)), c2.mono x1, c3, fun r H5 x5 hr hr5 => ?_⟩
        · rw [← hget]
          exact .inl ⟨_, _, .inr ⟨od, x1 _ _ hDs⟩, rfl, rfl⟩
        · have h25 := x5 _ _ h2
          have keep : ∀ {a : Addr} {xs : List V}, H5 a = some (.tup xs) → upd H5 D2 (.dK (vK (vPut W2 e.1 r (mrgs (alone n) l0)))) a = some (.tup xs) := fun {a xs} g => by
            rw [upd_ne fun z => by rw [z, h25] at g; cases g]
            exact g
          have hnew : ∀ x ∈ vW W2, x.1 ≠ e.1 := fun x hx z => by
            rw [h3] at hx
            obtain ⟨j, hj, hjx⟩ := List.getElem_of_mem hx
            rw [List.getElem_take] at hjx
            have hji : j < i := by
              rw [List.length_take] at hj
              omega
            unfold vW at hjx
            rw [List.getElem_map] at hjx
            have hei : W[i] = e := by
              have := List.getElem?_eq_getElem hil
              rw [he] at this
              exact (Option.some.inj this).symm
            have h1 : (W.map (·.1))[j]'(by rw [List.length_map]; omega) ≠ (W.map (·.1))[i]'(by rw [List.length_map]; exact hil) := List.pairwise_iff_getElem.mp hnn j i _ _ hji
            rw [List.getElem_map, List.getElem_map, hei, ← z, ← hjx] at h1
            exact h1 rfl
          refine ⟨vK W2, .inr e.1, rfl, h25, ?_, ?_⟩
          · unfold vK
            rw [List.length_map]
            exact sz_lt (by have := hk.1; omega)
          · rw [vK_put (p := mrgs (alone n) l0)]
            refine ⟨vPut W2 e.1 r (mrgs (alone n) l0), (x1.trans x5).mut hD2, upd_same, ?_, Nat.le_trans vPut_len (by omega), vPut_all (Pp := fun a p2 => upd H5 D2 (.dK (vK (vPut W2 e.1 r (mrgs (alone n) l0)))) a = some (.tup (nvs p2)) ∧ IsP n p2) (fun x hx => ⟨keep (x5 _ _ (h5 x hx).1), (h5 x hx).2⟩) ⟨keep hr5, isP_mrgs (isP_alone n) c3⟩⟩
            have ht : (vW W)[i]? = some (e.1, mrgs (alone n) l0) := by
              unfold vW
              rw [List.getElem?_map, he, ← c4]
              rfl
            rw [← vW_put, wPut_new hnew, h3, List.take_add_one, ht]
            rfl
      · obtain ⟨W2, x1, h2, h3, h4, h5⟩ := hp
        rw [hvl, List.take_of_length_le (by unfold vW; rw [List.length_map]; exact Nat.le_refl _), hW] at h3
        have hf := x1 _ _ hDs
        refine ⟨hf, q D2 _ ((es.trans x1).mut hD) (fresh_back es hD2) ⟨W2, (upd_ne hD2D).trans h2, h3, fun e he => ⟨?_, (h5 e he).2⟩⟩⟩
        have := (h5 e he).1
        rw [upd_ne fun z => by rw [z, hf] at this; cases this]
        exact this
end
end Eyes

set_option Elab.async false
set_option linter.all false
set_option maxRecDepth 100000
set_option maxHeartbeats 4000000
namespace Eyes
open PySem PySem.Spec PyProof.Rows L2 Evl TL
section
variable {P : Program} {w : World} {K : PySem.W.Frag} {mg : Str → Option Value} {base : Heap} {AA : Adr}
end
end Eyes

set_option Elab.async false
set_option linter.all false
set_option maxRecDepth 100000
set_option maxHeartbeats 4000000
namespace Eyes
open PySem PySem.Spec PyProof.Rows L2 Evl TL
def reprC (c : Ci) : Str := Str.empty ++ Str.ofString "Circle(" ++ c.str ++ Str.ofString ")"
def EqK (K : PySem.W.Frag) (C : Addr) (c : Ci) (H : Hp) (y : V) (b : Bool) : Prop :=
  (∃ d, CiAt C H y d ∧ b = decide (c.str = d.str)) ∨ (∃ z, y = .str z ∧ b = false) ∨ ∃ a zs, y = .ref a ∧ H a = some (.lst zs) ∧ b = false
def spEqC (K : PySem.W.Frag) (C : Addr) : Sp := fun vs H Q _ => ∃ (x y : V) (c : Ci) (b : Bool), vs = [x, y] ∧ CiAt C H x c ∧ EqK K C c H y b ∧ ∀ H', Ex H H' → Q (.bl b) H'
def spEyesC (C : Addr) (n : Nat) : Sp := fun vs H Q _ => ∃ (v : V) (c : Ci), vs = [v] ∧ CiAt C H v c ∧ c.depth < n ∧ c.fine ∧ ∀ (ys : List Str) (l : Addr) (H' : Hp), IsEyes c ys → H l = none → Ex H H' → H' l = some (.lst (ys.map V.str)) → Q (.ref l) H'
section
variable {P : Program} {w : World} {K : PySem.W.Frag} {mg : Str → Option Value} {base : Heap} {AA : Adr}
end
end Eyes

set_option Elab.async false
set_option linter.all false
set_option maxRecDepth 100000
set_option maxHeartbeats 4000000
namespace Eyes
open PySem PySem.Spec PyProof.Rows L2 Evl TL
def Plain (x : V) : Prop := x = .non ∨ (∃ b, x = .bl b) ∨ (∃ i, x = .int i) ∨ ∃ z, x = .str z
inductive Sm (C : Addr) (H : Hp) : Nat → V → V → Prop
  | sc {n : Nat} {x : V} : Plain x → Sm C H (n + 1) x x
  | ci {n : Nat} {x y : V} {c d : Ci} : CiAt C H x c → CiAt C H y d → c.str = d.str → Sm C H (n + 1) x y
  | lst {n : Nat} {a b : Addr} {xs ys : List V} : H a = some (.lst xs) → H b = some (.lst ys) → xs.length = ys.length → xs.length ≤ 90000 → (∀ (i : Nat) (u v : V), xs[i]? = some u → ys[i]? = some v → Sm C H n u v) → Sm C H (n + 1) (.ref a) (.ref b)
  | tup {n : Nat} {a b : Addr} {xs ys : List V} : H a = some (.tup xs) → H b = some (.tup ys) → xs.length = ys.length → xs.length ≤ 90000 → (∀ (i : Nat) (u v : V), xs[i]? = some u → ys[i]? = some v → Sm C H n u v) → Sm C H (n + 1) (.ref a) (.ref b)
theorem Sm.mono {C : Addr} {H H' : Hp} (e : Ex H H') {n : Nat} {x y : V} (h : Sm C H n x y) : Sm C H' n x y := by
  induction h with
  | sc h => exact .sc h
  | ci h1 h2 h3 => exact .ci (h1.mono e) (h2.mono e) h3
  | lst h1 h2 h3 h4 _ ih => exact .lst (e _ _ h1) (e _ _ h2) h3 h4 ih
  | tup h1 h2 h3 h4 _ ih => exact .tup (e _ _ h1) (e _ _ h2) h3 h4 ih
structure Hd (K : PySem.W.Frag) (C : Addr) (H : Hp) (n : Nat) (x y : V) (t : Value) (kl kt kb ki ks sq : Bool) : Prop where
  tx : TyX K H x t
  ty : TyX K H y t
  l : PySem.W.kitOne K t (.type "list") = some kl
  tp : PySem.W.kitOne K t (.type "tuple") = some kt
  b : PySem.W.kitOne K t (.type "bool") = some kb
  i : PySem.W.kitOne K t (.type "int") = some ki
  s : PySem.W.kitOne K t (.type "str") = some ks
  q : PySem.W.kitAny K t [.type "list", .type "tuple"] = some sq
  yes : sq = true → ∃ (p1 p2 : Addr) (xs ys : List V), x = .ref p1 ∧ y = .ref p2 ∧ xs.length = ys.length ∧ xs.length ≤ 90000 ∧ (∀ (i : Nat) (u v : V), xs[i]? = some u → ys[i]? = some v → Sm C H n u v) ∧ ((H p1 = some (.lst xs) ∧ H p2 = some (.lst ys)) ∨ (H p1 = some (.tup xs) ∧ H p2 = some (.tup ys)))
  no : sq = false → PySem.W.kitOne K t (.type "dict") = some false ∧ ((x = y ∧ scal x y = true) ∨ ∃ c d, CiAt C H x c ∧ CiAt C H y d ∧ c.str = d.str)
theorem Sm.hd {K : PySem.W.Frag} {C : Addr} {H : Hp} {n : Nat} {x y : V} (cc : Cls K C) (cy : ClsY K C) (h : Sm C H (n + 1) x y) : ∃ t kl kt kb ki ks sq, Hd K C H n x y t kl kt kb ki ks sq := by
  have dat : ∀ (d : PyData), Rep H x d → Rep H y d → (seqD d = true → ∃ (p1 p2 : Addr) (xs ys : List V), x = .ref p1 ∧ y = .ref p2 ∧ xs.length = ys.length ∧ xs.length ≤ 90000 ∧ (∀ (i : Nat) (u v : V), xs[i]? = some u → ys[i]? = some v → Sm C H n u v) ∧ ((H p1 = some (.lst xs) ∧ H p2 = some (.lst ys)) ∨ (H p1 = some (.tup xs) ∧ H p2 = some (.tup ys)))) → (seqD d = false → PySem.W.kitOne K (.type (tyD d)) (.type "dict") = some false ∧ x = y ∧ scal x y = true) → ∃ t kl kt kb ki ks sq, Hd K C H n x y t kl kt kb ki ks sq := fun d hx hy g1 g2 => by
    obtain ⟨kl, hkl⟩ := kit_list K d
    obtain ⟨kt, hkt⟩ := kit_tuple K d
    obtain ⟨kb, hkb⟩ := kit_bool K d
    obtain ⟨ki, hki⟩ := kit_int K d
    obtain ⟨ks, hks⟩ := kit_str K d
    exact ⟨_, kl, kt, kb, ki, ks, seqD d, hx.ty, hy.ty, hkl, hkt, hkb, hki, hks, kit_seq K d, g1, fun z => ⟨(g2 z).1, .inl (g2 z).2⟩⟩
  cases h with
  | sc h =>
    rcases h with rfl | ⟨b, rfl⟩ | ⟨i, rfl⟩ | ⟨z, rfl⟩
    · exact dat .none .non .non (fun z => nomatch z) fun _ => ⟨kit_ty (a := "NoneType") (by decide +kernel), rfl, rfl⟩
    · exact dat (.bool b) (.bl b) (.bl b) (fun z => nomatch z) fun _ => ⟨kit_ty (a := "bool") (by decide +kernel), rfl, rfl⟩
    · exact dat (.int i) (.int i) (.int i) (fun z => nomatch z) fun _ => ⟨kit_ty (a := "int") (by decide +kernel), rfl, rfl⟩
    · exact dat (.str z) (.str z) (.str z) (fun z => nomatch z) fun _ => ⟨kit_ty (a := "str") (by decide +kernel), rfl, rfl⟩
  | ci h1 h2 h3 =>
    obtain ⟨p, dx, l, vs, rfl, hp, _, _⟩ := h1.at_
    obtain ⟨p2, dx2, l2, vs2, rfl, hp2, _, _⟩ := h2.at_
    refine ⟨_, false, false, false, false, false, false, .base (.ins hp cc cy.ty1 cy.ty2 cy.ty3 cy.ty4), .base (.ins hp2 cc cy.ty1 cy.ty2 cy.ty3 cy.ty4), cy.k_list, cy.k_tuple, cy.k_bool, cy.k_int, cy.k_str, ?_, fun z => (nomatch z), fun _ => ⟨cy.k_dict, .inr ⟨_, _, h1, h2, h3⟩⟩⟩
    exact kitAny_cons (b := false) cy.k_list (fun _ => kitAny_cons (b := false) cy.k_tuple (fun _ => kitAny_nil) (fun z => nomatch z)) (fun z => nomatch z)
  | @lst _ a b xs ys h1 h2 h3 h4 h5 =>
    obtain ⟨kl, hkl⟩ := kit_list K (.list [])
    obtain ⟨kt, hkt⟩ := kit_tuple K (.list [])
    obtain ⟨kb, hkb⟩ := kit_bool K (.list [])
    obtain ⟨ki, hki⟩ := kit_int K (.list [])
    obtain ⟨ks, hks⟩ := kit_str K (.list [])
    exact ⟨_, kl, kt, kb, ki, ks, true, .base (.lst h1), .base (.lst h2), hkl, hkt, hkb, hki, hks, kit_seq K (.list []), fun _ => ⟨a, b, xs, ys, rfl, rfl, h3, h4, h5, .inl ⟨h1, h2⟩⟩, fun z => (nomatch z)⟩
  | @tup _ a b xs ys h1 h2 h3 h4 h5 =>
    obtain ⟨kl, hkl⟩ := kit_list K (.tuple [])
    obtain ⟨kt, hkt⟩ := kit_tuple K (.tuple [])
    obtain ⟨kb, hkb⟩ := kit_bool K (.tuple [])
    obtain ⟨ki, hki⟩ := kit_int K (.tuple [])
    obtain ⟨ks, hks⟩ := kit_str K (.tuple [])
    exact ⟨_, kl, kt, kb, ki, ks, true, .base (.tup h1), .base (.tup h2), hkl, hkt, hkb, hki, hks, kit_seq K (.tuple []), fun _ => ⟨a, b, xs, ys, rfl, rfl, h3, h4, h5, .inr ⟨h1, h2⟩⟩, fun z => (nomatch z)⟩
theorem Sm.non {C : Addr} {H : Hp} {n : Nat} {x y : V} (h : Sm C H n x y) : (x = .non ∧ y = .non) ∨ (decide (x = V.non) = false ∧ decide (y = V.non) = false) := by
  cases h with
  | sc h =>
    rcases h with rfl | ⟨b, rfl⟩ | ⟨i, rfl⟩ | ⟨z, rfl⟩
    · exact .inl ⟨rfl, rfl⟩
    · exact .inr ⟨rfl, rfl⟩
    · exact .inr ⟨rfl, rfl⟩
    · exact .inr ⟨decide_eq_false nofun, decide_eq_false nofun⟩
  | ci h1 h2 h3 =>
    obtain ⟨p, dx, l, vs, rfl, hp, _, _⟩ := h1.at_
    obtain ⟨p2, dx2, l2, vs2, rfl, hp2, _, _⟩ := h2.at_
    exact .inr ⟨rfl, rfl⟩
  | lst => exact .inr ⟨rfl, rfl⟩
  | tup => exact .inr ⟨rfl, rfl⟩
def spSm (C : Addr) (n : Nat) : Sp := fun vs H Q _ => ∃ (x y : V), vs = [x, y] ∧ Sm C H n x y ∧ ∀ H', Ex H H' → Q (.bl true) H'
section
variable {P : Program} {w : World} {K : PySem.W.Frag} {mg : Str → Option Value} {base : Heap} {AA : Adr}
end
end Eyes

set_option Elab.async false
set_option linter.all false
set_option maxRecDepth 100000
set_option maxHeartbeats 4000000
/-! The same thing twice, dicts too: data alone. -/
namespace Eyes
open PySem PySem.Spec PyProof.Rows L2 Evl TL
inductive Sd (H : Hp) : Nat → V → V → Prop
  | sc {n : Nat} {x : V} : Plain x → Sd H (n + 1) x x
  | lst {n : Nat} {a b : Addr} {xs ys : List V} : H a = some (.lst xs) → H b = some (.lst ys) → xs.length = ys.length → xs.length ≤ 90000 → (∀ (i : Nat) (u v : V), xs[i]? = some u → ys[i]? = some v → Sd H n u v) → Sd H (n + 1) (.ref a) (.ref b)
  | tup {n : Nat} {a b : Addr} {xs ys : List V} : H a = some (.tup xs) → H b = some (.tup ys) → xs.length = ys.length → xs.length ≤ 90000 → (∀ (i : Nat) (u v : V), xs[i]? = some u → ys[i]? = some v → Sd H n u v) → Sd H (n + 1) (.ref a) (.ref b)
  | dct {n : Nat} {a b : Addr} {kvs lvs : List (L2.Key × V)} : H a = some (.dK kvs) → H b = some (.dK lvs) → kvs.map (·.1) = lvs.map (·.1) → (lvs.map (·.1)).Nodup → lvs.length ≤ 1000 → (∀ (i : Nat) (k : L2.Key) (u v : V), kvs[i]? = some (k, u) → lvs[i]? = some (k, v) → Sd H (n + 2) u v) → Sd H (n + 3) (.ref a) (.ref b)
theorem Sd.mono {H H' : Hp} (e : Ex H H') {n : Nat} {x y : V} (h : Sd H n x y) : Sd H' n x y := by
  induction h with
  | sc h => exact .sc h
  | lst h1 h2 h3 h4 _ ih => exact .lst (e _ _ h1) (e _ _ h2) h3 h4 ih
  | tup h1 h2 h3 h4 _ ih => exact .tup (e _ _ h1) (e _ _ h2) h3 h4 ih
  | dct h1 h2 h3 h4 h5 _ ih => exact .dct (e _ _ h1) (e _ _ h2) h3 h4 h5 ih
structure Hq (K : PySem.W.Frag) (H : Hp) (n : Nat) (x y : V) (t : Value) (kl kt kb ki ks sq : Bool) : Prop where
  tx : TyX K H x t
  ty : TyX K H y t
  l : PySem.W.kitOne K t (.type "list") = some kl
  tp : PySem.W.kitOne K t (.type "tuple") = some kt
  b : PySem.W.kitOne K t (.type "bool") = some kb
  i : PySem.W.kitOne K t (.type "int") = some ki
  s : PySem.W.kitOne K t (.type "str") = some ks
  q : PySem.W.kitAny K t [.type "list", .type "tuple"] = some sq
  yes : sq = true → ∃ (p1 p2 : Addr) (xs ys : List V), x = .ref p1 ∧ y = .ref p2 ∧ xs.length = ys.length ∧ xs.length ≤ 90000 ∧ (∀ (i : Nat) (u v : V), xs[i]? = some u → ys[i]? = some v → Sd H n u v) ∧ ((H p1 = some (.lst xs) ∧ H p2 = some (.lst ys)) ∨ (H p1 = some (.tup xs) ∧ H p2 = some (.tup ys)))
  no : sq = false → PySem.W.kitOne K t (.type "dict") = some false ∧ x = y ∧ scal x y = true
theorem Sd.hd {K : PySem.W.Frag} {H : Hp} {n : Nat} {x y : V} (h : Sd H (n + 1) x y) : (∃ t kl kt kb ki ks sq, Hq K H n x y t kl kt kb ki ks sq) ∨ ∃ (m : Nat) (a b : Addr) (kvs lvs : List (L2.Key × V)), n = m + 2 ∧ x = .ref a ∧ y = .ref b ∧ H a = some (.dK kvs) ∧ H b = some (.dK lvs) ∧ kvs.map (·.1) = lvs.map (·.1) ∧ (lvs.map (·.1)).Nodup ∧ lvs.length ≤ 1000 ∧ ∀ (i : Nat) (k : L2.Key) (u v : V), kvs[i]? = some (k, u) → lvs[i]? = some (k, v) → Sd H (m + 2) u v := by
  have dat : ∀ (d : PyData), TyX K H x (.type (tyD d)) → TyX K H y (.type (tyD d)) → (seqD d = true → ∃ (p1 p2 : Addr) (xs ys : List V), x = .ref p1 ∧ y = .ref p2 ∧ xs.length = ys.length ∧ xs.length ≤ 90000 ∧ (∀ (i : Nat) (u v : V), xs[i]? = some u → ys[i]? = some v → Sd H n u v) ∧ ((H p1 = some (.lst xs) ∧ H p2 = some (.lst ys)) ∨ (H p1 = some (.tup xs) ∧ H p2 = some (.tup ys)))) → (seqD d = false → PySem.W.kitOne K (.type (tyD d)) (.type "dict") = some false ∧ x = y ∧ scal x y = true) → ∃ t kl kt kb ki ks sq, Hq K H n x y t kl kt kb ki ks sq := fun d hx hy g1 g2 => by
    obtain ⟨kl, hkl⟩ := kit_list K d
    obtain ⟨kt, hkt⟩ := kit_tuple K d
    obtain ⟨kb, hkb⟩ := kit_bool K d
    obtain ⟨ki, hki⟩ := kit_int K d
    obtain ⟨ks, hks⟩ := kit_str K d
    exact ⟨_, kl, kt, kb, ki, ks, seqD d, hx, hy, hkl, hkt, hkb, hki, hks, kit_seq K d, g1, g2⟩
  cases h with
  | sc h =>
    refine .inl ?_
    rcases h with rfl | ⟨b, rfl⟩ | ⟨i, rfl⟩ | ⟨z, rfl⟩
    · exact dat .none Rep.non.ty Rep.non.ty (fun z => nomatch z) fun _ => ⟨kit_ty (a := "NoneType") (by decide +kernel), rfl, rfl⟩
    · exact dat (.bool b) (Rep.bl b).ty (Rep.bl b).ty (fun z => nomatch z) fun _ => ⟨kit_ty (a := "bool") (by decide +kernel), rfl, rfl⟩
    · exact dat (.int i) (Rep.int i).ty (Rep.int i).ty (fun z => nomatch z) fun _ => ⟨kit_ty (a := "int") (by decide +kernel), rfl, rfl⟩
    · exact dat (.str z) (Rep.str z).ty (Rep.str z).ty (fun z => nomatch z) fun _ => ⟨kit_ty (a := "str") (by decide +kernel), rfl, rfl⟩
  | @lst _ a b xs ys h1 h2 h3 h4 h5 =>
    exact .inl (dat (.list []) (.base (.lst h1)) (.base (.lst h2)) (fun _ => ⟨a, b, xs, ys, rfl, rfl, h3, h4, h5, .inl ⟨h1, h2⟩⟩) fun z => nomatch z)
  | @tup _ a b xs ys h1 h2 h3 h4 h5 =>
    exact .inl (dat (.tuple []) (.base (.tup h1)) (.base (.tup h2)) (fun _ => ⟨a, b, xs, ys, rfl, rfl, h3, h4, h5, .inr ⟨h1, h2⟩⟩) fun z => nomatch z)
  | @dct m a b kvs lvs h1 h2 h3 h4 h5 h6 => exact .inr ⟨m, a, b, kvs, lvs, rfl, rfl, rfl, h1, h2, h3, h4, h5, h6⟩
theorem Sd.non {H : Hp} {n : Nat} {x y : V} (h : Sd H n x y) : (x = .non ∧ y = .non) ∨ (decide (x = V.non) = false ∧ decide (y = V.non) = false) := by
  cases h with
  | sc h =>
    rcases h with rfl | ⟨b, rfl⟩ | ⟨i, rfl⟩ | ⟨z, rfl⟩
    · exact .inl ⟨rfl, rfl⟩
    · exact .inr ⟨rfl, rfl⟩
    · exact .inr ⟨rfl, rfl⟩
    · exact .inr ⟨decide_eq_false nofun, decide_eq_false nofun⟩
  | lst => exact .inr ⟨rfl, rfl⟩
  | tup => exact .inr ⟨rfl, rfl⟩
  | dct => exact .inr ⟨rfl, rfl⟩
theorem valV_at : ∀ {kvs : List (L2.Key × V)} {i : Nat} {k : L2.Key} {v : V}, (kvs.map (·.1)).Nodup → kvs[i]? = some (k, v) → valV kvs k = some v
  | [], _, _, _, _, h => nomatch h
  | e :: kvs, 0, k, v, _, h => by
    cases h
    exact valV_pos rfl
  | e :: kvs, i + 1, k, v, hn, h => by
    rw [List.map_cons, List.nodup_cons] at hn
    have h2 : kvs[i]? = some (k, v) := h
    rw [valV_neg (p := e) fun z => hn.1 (by rw [z]; exact List.mem_map.mpr ⟨_, List.mem_of_getElem? h2, rfl⟩)]
    exact valV_at hn.2 h2
def spSd (n : Nat) : Sp := fun vs H Q _ => ∃ (x y : V), vs = [x, y] ∧ Sd H n x y ∧ ∀ H', Ex H H' → Q (.bl true) H'
theorem kV_plain (k : L2.Key) : Plain (kV k) := by
  cases k with
  | inl i => exact .inr (.inr (.inl ⟨_, rfl⟩))
  | inr s => exact .inr (.inr (.inr ⟨_, rfl⟩))
section
variable {P : Program} {w : World} {K : PySem.W.Frag} {mg : Str → Option Value} {base : Heap} {AA : Adr}
theorem ok_law_sd (T : Txt K mg AA) : ∀ n : Nat, Pr P w K mg base "_law_same" s_law_same p_law_same (n + 1) (spSd n)
  | 0 => by
    obtain ⟨f, fd, F, hb, hm⟩ := T.f_law_same
    exact ⟨f, fd, hm, F, hb, fun vs H Q E h => by
      obtain ⟨x, y, rfl, h, _⟩ := h
      rfl, fun A outer s H args us vs Q E _ _ _ _ h => by
      obtain ⟨x, y, _, h, _⟩ := h
      cases h⟩
  | n + 1 => by
    have G := ok_law_sd T n
    refine pr_mk T.f_law_same sc_law_same (fun vs H Q E h => ?_) (fun f cdv A outer s H vs Q E hr h => ?_)
    · obtain ⟨x, y, rfl, _⟩ := h
      rfl
    · obtain ⟨x, y, rfl, hs, q⟩ := h
      refine ⟨_, (pss_cons (ps_if (PW.pt (pw_or (pt_cmpR op_isN (pv 1) pe_non (nomark _)) (pw_or1 (pt_cmpR op_isN (pv 0) pe_non (nomark _)))))
      (pss_one (ps_ret (pe_and (pe_cmpR op_isN (pv 1) pe_non (nomark _)) (pe_one (pe_cmpR op_isN (pv 0) pe_non (nomark _))))))
      pss_nil)
      (pss_cons (ps_if (pt_val (pe_callB call_isiT (by rfl) T.n_isinstance PyProof.Rows.boot_isinstance (pa_cons (pv 1) (pa_cons (pe_tup (pa_cons (pe_bltn (v := .ty "list") (by rfl) T.n_list (by decide +kernel) rfl) (pa_cons (pe_bltn (v := .ty "tuple") (by rfl) T.n_tuple (by decide +kernel) rfl) pa_nil))) pa_nil))))
      (pss_cons (ps_if (PW.pt (pw_or (pt_cmpR op_ne (pe_callB (call_isiK (K := K) rfl) (by rfl) T.n_isinstance PyProof.Rows.boot_isinstance (pa_cons (pv 0) (pa_cons (pe_bltn (v := .ty "list") (by rfl) T.n_list (by decide +kernel) rfl) pa_nil))) (pe_callB (call_isiK (K := K) rfl) (by rfl) T.n_isinstance PyProof.Rows.boot_isinstance (pa_cons (pv 1) (pa_cons (pe_bltn (v := .ty "list") (by rfl) T.n_list (by decide +kernel) rfl) pa_nil))) (nomark _)) (pw_or1 (pt_cmpR op_ne (pe_callB (call_isiK (K := K) rfl) (by rfl) T.n_isinstance PyProof.Rows.boot_isinstance (pa_cons (pv 0) (pa_cons (pe_bltn (v := .ty "tuple") (by rfl) T.n_tuple (by decide +kernel) rfl) pa_nil))) (pe_callB (call_isiK (K := K) rfl) (by rfl) T.n_isinstance PyProof.Rows.boot_isinstance (pa_cons (pv 1) (pa_cons (pe_bltn (v := .ty "tuple") (by rfl) T.n_tuple (by decide +kernel) rfl) pa_nil))) (nomark _)))))
      (pss_one (ps_ret pe_bl))
      pss_nil)
      (pss_one (ps_ret (pe_and (pe_cmpR op_eq (pe_callB call_len (by rfl) T.n_len PySem.boot_len (pa_cons (pv 0) pa_nil)) (pe_callB call_len (by rfl) T.n_len PySem.boot_len (pa_cons (pv 1) pa_nil)) (nomark _)) (pe_one (pe_callB (cr_all rfl) (by rfl) T.n_all PyProof.Rows.boot_all (pa_cons (pe_lc (own := [("_law_x", 3), ("_law_y", 4)]) (g := gTup K 2 (gCons (gName 3) (gCons (gName 4) gNil))) (tt := tYes) rfl sc_law_same.nd (RZ.pi_zipA (by rfl) T.n_zip (pa_cons (pv 0) (pa_cons (pv 1) pa_nil))) (blkOk_by (own := [("_law_x", 3), ("_law_y", 4)]) (N := n_law_same) (sc := defScope s_law_same) (by decide +kernel)) (fun _ _ _ _ _ => (pg_tup (by rfl) (pgs_cons (pg_name (i := 3) sc_law_same.nd rfl (.inl rfl)) (pgs_cons (pg_name (i := 4) sc_law_same.nd rfl (.inl rfl)) pgs_nil)))) (fun _ _ _ _ _ => pts_nil) (fun _ _ _ _ _ => (pcall G hr (pa_cons (pv 3) (pa_cons (pv 4) pa_nil))))) pa_nil)))))))
      pss_nil)
      (pss_cons (ps_if (pt_val (pe_callB (call_isiK (K := K) rfl) (by rfl) T.n_isinstance PyProof.Rows.boot_isinstance (pa_cons (pv 1) (pa_cons (pe_bltn (v := .ty "dict") (by rfl) T.n_dict (by decide +kernel) rfl) pa_nil))))
      (pss_cons (ps_if (PW.pt (pw_or (pt_not (pt_val (pe_callB (call_isiK (K := K) rfl) (by rfl) T.n_isinstance PyProof.Rows.boot_isinstance (pa_cons (pv 0) (pa_cons (pe_bltn (v := .ty "dict") (by rfl) T.n_dict (by decide +kernel) rfl) pa_nil))))) (pw_or1 (pt_not (pt_val (pcall G hr (pa_cons (pe_callTy (call_list_dK rfl) (by rfl) T.n_list PyProof.Rows.boot_list (pa_cons (pv 0) pa_nil)) (pa_cons (pe_callTy (call_list_dK rfl) (by rfl) T.n_list PyProof.Rows.boot_list (pa_cons (pv 1) pa_nil)) pa_nil))))))))
      (pss_one (ps_ret pe_bl))
      pss_nil)
      (pss_one (ps_ret (pe_callB (cr_all rfl) (by rfl) T.n_all PyProof.Rows.boot_all (pa_cons (pe_lc (own := [("_law_mark", 2)]) (g := gName 2) (tt := tYes) rfl sc_law_same.nd (pi_list (pe_callTy (call_list_dK rfl) (by rfl) T.n_list PyProof.Rows.boot_list (pa_cons (pv 1) pa_nil))) (blkOk_by (own := [("_law_mark", 2)]) (N := n_law_same) (sc := defScope s_law_same) (by decide +kernel)) (fun _ _ _ _ _ => (pg_name (i := 2) sc_law_same.nd rfl (.inl rfl))) (fun _ _ _ _ _ => pts_nil) (fun _ _ _ _ _ => (pcall G hr (pa_cons (pe_dget (hu_of hr) (pv 0) (pv 2) (fun _ _ => rfl)) (pa_cons (pe_dget (hu_of hr) (pv 1) (pv 2) (fun _ _ => rfl)) pa_nil))))) pa_nil)))))
      pss_nil)
      (pss_cons (ps_if (PW.pt (pw_or (pt_cmpR op_ne (pe_callB (call_isiK (K := K) rfl) (by rfl) T.n_isinstance PyProof.Rows.boot_isinstance (pa_cons (pv 1) (pa_cons (pe_bltn (v := .ty "bool") (by rfl) T.n_bool (by decide +kernel) rfl) pa_nil))) (pe_callB (call_isiK (K := K) rfl) (by rfl) T.n_isinstance PyProof.Rows.boot_isinstance (pa_cons (pv 0) (pa_cons (pe_bltn (v := .ty "bool") (by rfl) T.n_bool (by decide +kernel) rfl) pa_nil))) (nomark _)) (pw_or1 (pt_cmpR op_ne (pe_callB (call_isiK (K := K) rfl) (by rfl) T.n_isinstance PyProof.Rows.boot_isinstance (pa_cons (pv 1) (pa_cons (pe_bltn (v := .ty "int") (by rfl) T.n_int (by decide +kernel) rfl) pa_nil))) (pe_callB (call_isiK (K := K) rfl) (by rfl) T.n_isinstance PyProof.Rows.boot_isinstance (pa_cons (pv 0) (pa_cons (pe_bltn (v := .ty "int") (by rfl) T.n_int (by decide +kernel) rfl) pa_nil))) (nomark _)))))
      (pss_one (ps_ret pe_bl))
      pss_nil)
      (pss_one (ps_ret (pe_and (pe_cmpR op_eq (pe_callB (call_isiK (K := K) rfl) (by rfl) T.n_isinstance PyProof.Rows.boot_isinstance (pa_cons (pv 1) (pa_cons (pe_bltn (v := .ty "str") (by rfl) T.n_str (by decide +kernel) rfl) pa_nil))) (pe_callB (call_isiK (K := K) rfl) (by rfl) T.n_isinstance PyProof.Rows.boot_isinstance (pa_cons (pv 0) (pa_cons (pe_bltn (v := .ty "str") (by rfl) T.n_str (by decide +kernel) rfl) pa_nil))) (nomark _)) (pe_one (pe_cmpR op_eq (pv 0) (pv 1) (by rfl)))))))))), ?_⟩
      -- if due is None or found is None
      refine ⟨_, rfl, rfl, _, rfl, ?_⟩
      rcases hs.non with ⟨rfl, rfl⟩ | ⟨hxn, hyn⟩
      · refine iteT ?_
        refine iteT ?_
        refine ⟨_, rfl, rfl, _, rfl, iteT ?_⟩
        refine ⟨_, rfl, rfl, ?_⟩
        exact q _ (Ex.refl _)
      · rw [hyn]
        refine iteF ?_
        refine ⟨_, rfl, rfl, _, rfl, ?_⟩
        rw [hxn]
        refine iteF ?_
        -- if isinstance(due, (list, tuple))
        refine ⟨_, rfl, by show 2 ≤ sizeLine; decide, fun t1 ht1 => ?_⟩
        have e1 : Ex H (upd H t1 (.tup [.ty "list", .ty "tuple"])) := Ex.new ht1
        have ht1' := upd_same (H := H) (a := t1) (o := HO.tup [.ty "list", .ty "tuple"])
        have hs1 := hs.mono e1
        generalize upd H t1 (.tup [.ty "list", .ty "tuple"]) = H1 at e1 hs1 ht1'
        rcases hs1.hd (K := K) with ⟨t, kl, kt, kb, ki, ks, sq, g⟩ | ⟨m, a, b, kvs, lvs, rfl, rfl, rfl, ha, hb, hkk, hnd, hll, hin⟩
        · refine ⟨y, t1, [.ty "list", .ty "tuple"], _, [.type "list", .type "tuple"], _, rfl, ht1', .cons (.ty _) (.cons (.ty _) .nil), g.ty, g.q, _, rfl, ?_⟩
          cases sq with
          | false =>
            refine iteF ?_
            obtain ⟨hkd, rfl, hsc⟩ := g.no rfl
            refine ⟨_, rfl, x, .ty "dict", _, _, _, rfl, .ty _, g.ty, hkd, _, rfl, iteF ?_⟩
            refine ⟨_, rfl, x, .ty "bool", _, _, _, rfl, .ty _, g.ty, g.b, _, rfl, x, .ty "bool", _, _, _, rfl, .ty _, g.tx, g.b, rfl, _, rfl, ?_⟩
            refine iteNS rfl ?_
            refine ⟨_, rfl, x, .ty "int", _, _, _, rfl, .ty _, g.ty, g.i, _, rfl, x, .ty "int", _, _, _, rfl, .ty _, g.tx, g.i, rfl, _, rfl, ?_⟩
            refine iteNS rfl ?_
            refine ⟨_, rfl, x, .ty "str", _, _, _, rfl, .ty _, g.ty, g.s, _, rfl, x, .ty "str", _, _, _, rfl, .ty _, g.tx, g.s, rfl, _, rfl, iteDT rfl ?_⟩
            refine ⟨_, rfl, _, rfl, hsc, ?_⟩
            rw [decide_eq_true rfl]
            exact q _ e1
          | true =>
            refine iteT ?_
            -- kinds
            refine ⟨_, rfl, x, .ty "list", _, _, _, rfl, .ty _, g.tx, g.l, _, rfl, y, .ty "list", _, _, _, rfl, .ty _, g.ty, g.l, rfl, _, rfl, ?_⟩
            refine iteNS rfl ?_
            refine ⟨_, rfl, x, .ty "tuple", _, _, _, rfl, .ty _, g.tx, g.tp, _, rfl, y, .ty "tuple", _, _, _, rfl, .ty _, g.ty, g.tp, rfl, _, rfl, ?_⟩
            refine iteNS rfl ?_
            -- len(found) == len(due) and all([..])
            obtain ⟨p1, p2, xs, ys, rfl, rfl, ll, hl1, hh, ho⟩ := g.yes rfl
            have LX : LenV K (.ref p1) H1 xs.length := by
              rcases ho with ⟨h, _⟩ | ⟨h, _⟩
              · exact .inl ⟨_, sq_of h, rfl⟩
              · exact .inr ⟨_, st_of h, rfl⟩
            have LY : LenV K (.ref p2) H1 ys.length := by
              rcases ho with ⟨_, h⟩ | ⟨_, h⟩
              · exact .inl ⟨_, sq_of h, rfl⟩
              · exact .inr ⟨_, st_of h, rfl⟩
            refine ⟨_, rfl, .ref p1, _, rfl, LX, _, rfl, .ref p2, _, rfl, LY, rfl, _, rfl, iteDT (by rw [ll]) ?_⟩
            -- all([same(x, y) for x, y in zip(found, due)])
            have turn : ∀ (D : Addr) (i : Nat) (v : V) (H3 H4 : Hp), i < xs.length → (H1 D = none ∧ Ex H1 H3 ∧ H3 D = some (.lst (List.replicate i (V.bl true)))) → YPair (fun i => xs[i]?) (fun i => ys[i]?) i H3 v H4 →
                gTup K 2 (gCons (gName 3) (gCons (gName 4) gNil)) v [some (V.ref p1), some (V.ref p2), none, none, none] H4 fun σ2 H5 => wipe σ2 [3, 4] = [some (V.ref p1), some (V.ref p2), none, none, none] ∧ tYes σ2 H5 fun b H6 =>
                  if b = true then tCall (spSd n) [] (fun _ _ _ => False) (tCons (tVar 3) (tCons (tVar 4) tNil)) σ2 H6 fun y H7 => ∃ acc, H7 D = some (.lst acc) ∧ acc.length < sizeLine ∧
                    (fun i H' => H1 D = none ∧ Ex H1 H' ∧ H' D = some (.lst (List.replicate i (V.bl true)))) (i + 1) (upd H7 D (.lst (acc ++ [y]))) else (fun i H' => H1 D = none ∧ Ex H1 H' ∧ H' D = some (.lst (List.replicate i (V.bl true)))) (i + 1) H6 := by
              intro D i v H3 H4 hi hp hy4
              obtain ⟨T1, u1, u2, rfl, hT, rfl, g1, g2⟩ := hy4
              obtain ⟨hD, ex3, hD3⟩ := hp
              have ex4 : Ex H3 (upd H3 T1 (.tup [u1, u2])) := Ex.new hT
              refine ⟨T1, [u1, u2], rfl, st_of upd_same, rfl, u1, [u2], rfl, u2, [], rfl, rfl, rfl, ?_⟩
              refine ⟨u1, rfl, u2, rfl, u1, u2, rfl, (hh i u1 u2 g1 g2).mono (ex3.trans ex4), fun H7 e7 => ?_⟩
              refine ⟨_, e7 _ _ (ex4 _ _ hD3), ?_, hD, ((ex3.trans ex4).trans e7).mut hD, ?_⟩
              · rw [List.length_replicate]
                exact sz_lt (by omega)
              · rw [upd_same, List.replicate_succ']
            have fin : ∀ (D : Addr) (H' : Hp), (H1 D = none ∧ Ex H1 H' ∧ H' D = some (.lst (List.replicate xs.length (V.bl true)))) → tNil [some (V.ref p1), some (V.ref p2), none, none, none] H' fun xs H2 => rAll K (V.ref D :: xs) H2 Q := by
              intro D H' hp
              refine ⟨D, List.replicate xs.length true, rfl, sq_of (hp.2.2.trans (by rw [List.map_replicate])), ?_⟩
              rw [show (List.replicate xs.length true).all id = true by simp]
              exact q _ (e1.trans hp.2.1)
            rcases ho with ⟨h1, h2⟩ | ⟨h1, h2⟩
            · refine ⟨_, rfl, _, rfl, p1, p2, xs, ys, rfl, .inl ⟨sq_of h1, sq_of h2, fun D hD => lc_it (walk_zip (n := xs.length) (by omega)) (fun i H' => H1 D = none ∧ Ex H1 H' ∧ H' D = some (.lst (List.replicate i (V.bl true)))) ⟨hD, Ex.new hD, upd_same⟩ (fun i H' _ hp => ⟨sq_of (hp.2.1 _ _ h1), sq_of (hp.2.1 _ _ h2)⟩) (fun i v H3 H4 hi hp hy4 => turn D i v H3 H4 hi hp hy4) (fun H' hp => fin D H' hp)⟩⟩
            · refine ⟨_, rfl, _, rfl, p1, p2, xs, ys, rfl, .inr ⟨st_of h1, st_of h2, fun D hD => lc_it (walk_zipT (n := xs.length) (by omega)) (fun i H' => H1 D = none ∧ Ex H1 H' ∧ H' D = some (.lst (List.replicate i (V.bl true)))) ⟨hD, Ex.new hD, upd_same⟩ (fun i H' _ hp => ⟨st_of (hp.2.1 _ _ h1), st_of (hp.2.1 _ _ h2)⟩) (fun i v H3 H4 hi hp hy4 => turn D i v H3 H4 hi hp hy4) (fun H' hp => fin D H' hp)⟩⟩
        · have hkd : PySem.W.kitOne K (.type "dict") (.type "dict") = some true := kit_ty (a := "dict") (by decide +kernel)
          have hlen : kvs.length = lvs.length := by
            have := congrArg List.length hkk
            rw [List.length_map, List.length_map] at this
            exact this
          refine ⟨.ref b, t1, [.ty "list", .ty "tuple"], _, [.type "list", .type "tuple"], _, rfl, ht1', .cons (.ty _) (.cons (.ty _) .nil), .base (.dK hb), kit_seq K (.dict []), _, rfl, iteF ?_⟩
          refine ⟨_, rfl, .ref b, .ty "dict", _, _, true, rfl, .ty _, .base (.dK hb), hkd, _, rfl, iteT ?_⟩
          refine ⟨_, rfl, .ref a, .ty "dict", _, _, true, rfl, .ty _, .base (.dK ha), hkd, _, rfl, iteF ?_⟩
          refine ⟨_, rfl, a, kvs, rfl, ha, fun q1 hq1 => ?_⟩
          have e2 := Ex.new (o := .lst (kvs.map fun kv => kV kv.1)) hq1
          refine ⟨_, rfl, b, lvs, rfl, e2 _ _ hb, fun q2 hq2 => ?_⟩
          have e3 := Ex.new (o := .lst (lvs.map fun kv => kV kv.1)) hq2
          have hlists : (kvs.map fun kv => kV kv.1) = lvs.map fun kv => kV kv.1 := by
            have := congrArg (List.map kV) hkk
            rw [List.map_map, List.map_map] at this
            exact this
          refine ⟨.ref q1, .ref q2, rfl, .lst (e3 _ _ upd_same) upd_same (by rw [hlists]) (by rw [List.length_map]; omega) fun i u v h1 h2 => ?_, fun H5 e5 => ⟨_, rfl, iteF ?_⟩⟩
          · rw [hlists] at h1
            rw [h1] at h2
            cases h2
            rw [List.getElem?_map] at h1
            obtain ⟨kv, _, rfl⟩ := Option.map_eq_some_iff.mp h1
            exact .sc (kV_plain kv.1)
          · have e15 := (e2.trans e3).trans e5
            refine ⟨_, rfl, b, lvs, rfl, e15 _ _ hb, fun q3 hq3 => ?_⟩
            have e6 := Ex.new (o := .lst (lvs.map fun kv => kV kv.1)) hq3
            have hq3' := upd_same (H := H5) (a := q3) (o := HO.lst (lvs.map fun kv => kV kv.1))
            have e16 := e15.trans e6
            generalize upd H5 q3 (.lst (lvs.map fun kv => kV kv.1)) = H6 at e16 hq3'
            refine ⟨q3, rfl, ⟨_, sq_of hq3'⟩, fun D hD => lc_it (walk_list (xs := lvs.map fun kv => kV kv.1)) (fun i H' => H6 D = none ∧ Ex H6 H' ∧ H' D = some (.lst (List.replicate i (V.bl true)))) ⟨hD, Ex.new hD, upd_same⟩ (fun i H' _ hp => sq_of (hp.2.1 _ _ hq3')) (fun i v H7 H8 hi hp hy => ?_) (fun H' hp => ?_)⟩
            · obtain ⟨rfl, hv⟩ := hy
              obtain ⟨hD7, x7, h7⟩ := hp
              rw [List.getElem?_map] at hv
              obtain ⟨⟨k, vb⟩, hkb, rfl⟩ := Option.map_eq_some_iff.mp hv
              have hil : i < kvs.length := by
                have := (List.getElem?_eq_some_iff.mp hkb).1
                omega
              obtain ⟨va, hka⟩ : ∃ va, kvs[i]? = some (k, va) := by
                have h := congrArg (fun l => l[i]?) hkk
                simp only [List.getElem?_map, hkb] at h
                rw [List.getElem?_eq_getElem hil] at h
                have h := Option.some.inj h
                have h : kvs[i].1 = k := h
                refine ⟨kvs[i].2, ?_⟩
                rw [List.getElem?_eq_getElem hil, ← h]
              have e17 := e16.trans x7
              refine ⟨rfl, ?_⟩
              refine ⟨_, rfl, _, rfl, a, va, rfl, by rw [← valV_at (by rw [hkk]; exact hnd) hka]; exact DGet.k (e17 _ _ ha), _, rfl, _, rfl, b, vb, rfl, by rw [← valV_at hnd hkb]; exact DGet.k (e17 _ _ hb), va, vb, rfl, (hin i k va vb hka hkb).mono e17, fun H9 e9 => ?_⟩
              refine ⟨_, e9 _ _ h7, ?_, hD7, (x7.trans e9).mut hD7, ?_⟩
              · rw [List.length_replicate]
                exact sz_lt (by omega)
              · rw [upd_same, List.replicate_succ']
            · refine ⟨D, List.replicate (lvs.map fun kv => kV kv.1).length true, rfl, sq_of (hp.2.2.trans (by rw [List.map_replicate])), ?_⟩
              rw [show (List.replicate (lvs.map fun kv => kV kv.1).length true).all id = true by simp]
              exact q _ ((e1.trans e16).trans hp.2.1)
end
end Eyes

set_option Elab.async false
set_option linter.all false
set_option maxRecDepth 100000
set_option maxHeartbeats 4000000
/-! Worlds: what is checked, how one is made, its names and partings. -/
namespace Eyes
open PySem PySem.Spec PyProof.Rows L2 Evl TL

theorem num_in {n x : Nat} (h1 : 1 ≤ x) (h2 : x ≤ n) : numD (.int (x : Nat)) 1 (n : Int) = true := by
  show (decide ((1 : Int) ≤ (x : Int)) && decide ((x : Int) ≤ (n : Int))) = true
  rw [decide_eq_true (by omega), decide_eq_true (by omega)]
  rfl
theorem sqlt_ty {K : PySem.W.Frag} {H : Hp} {a : Addr} {us : List V} (h : SqLT K H a us) : ∃ t, TyX K H (.ref a) t ∧ PySem.W.kitAny K t [.type "list", .type "tuple"] = some true := by
  rcases h with h | h
  · refine ⟨.type "list", ?_, kit_seq K (.list [])⟩
    rcases h with h | ⟨o, its, n, h1, h2, _⟩
    · rcases h with h | ⟨o, h⟩
      · exact .base (.lst h)
      · exact .base (.frz h)
    · exact .kList h1 h2
  · refine ⟨.type "tuple", ?_, kit_seq K (.tuple [])⟩
    rcases h with h | ⟨o, its, n, h1, h2, _⟩
    · rcases h with h | ⟨o, h⟩
      · exact .base (.tup h)
      · exact .fTuple h
    · exact .kTuple h1 h2
def spCheckMany : Sp := fun vs H Q _ => ∃ n : Nat, vs = [.int (n : Int)] ∧ 1 ≤ n ∧ n ≤ 2400 ∧ Q .non H
def tieOk (n : Nat) (k : Knot) : Prop := nameS k.1 = true ∧ okS k.1 ∧ (1 ≤ k.2.1 ∧ k.2.1 ≤ n) ∧ 1 ≤ k.2.2 ∧ k.2.2 ≤ n
def spIsTie : Sp := fun vs H Q _ => ∃ (p : Addr) (n : Nat) (k : Knot), vs = [.ref p, .int (n : Int)] ∧ H p = some (.tup [.str k.1, .int (k.2.1 : Nat), .int (k.2.2 : Nat)]) ∧ tieOk n k ∧ ∀ H', Ex H H' → Q (.bl true) H'
def spCheckTies (K : PySem.W.Frag) : Sp := fun vs H Q _ => ∃ (a : Addr) (n : Nat) (us : List V) (ks : List Knot), vs = [.int (n : Int), .ref a] ∧ SqLT K H a us ∧ Knots H us ks ∧ (∀ k ∈ ks, tieOk n k) ∧ ks.length ≤ 1000 ∧ ∀ H', Ex H H' → Q .non H'
section
variable {P : Program} {w : World} {K : PySem.W.Frag} {mg : Str → Option Value} {base : Heap} {AA : Adr}
theorem ok_check_many (T : Txt K mg AA) : Pr P w K mg base "check_many" s_check_many p_check_many 2 spCheckMany := by
  refine pr_mk T.f_check_many sc_check_many (fun vs H Q E h => ?_) (fun f cdv A outer s H vs Q E hr h => ?_)
  · obtain ⟨n, rfl, _⟩ := h
    rfl
  · obtain ⟨n, rfl, h1, h2, q⟩ := h
    refine ⟨_, (pss_one (ps_if (pt_not (pt_val (pcall (ok_is_number T) hr (pa_cons (pv 0) (pa_cons pe_int (pa_cons (ClX.pe_cval (pe_glob (v := .ref AA.World) (by rfl) T.m_World rfl)) pa_nil))))))
      (pss_one ps_never)
      pss_nil)), ?_⟩
    obtain ⟨tk, hcr, hcv⟩ := T.k_World_LIMIT
    refine ⟨_, rfl, AA.World, _, _, _, rfl, hcr, hcv, .int n, .int n, 1, 2400, rfl, .int _, ?_⟩
    refine ⟨_, rfl, ?_⟩
    have e : numD (.int (n : Nat)) 1 2400 = true := num_in (n := 2400) h1 h2
    rw [e]
    exact iteF q
theorem ok_is_tie (T : Txt K mg AA) : Pr P w K mg base "is_tie" s_is_tie p_is_tie 2 spIsTie := by
  refine pr_mk T.f_is_tie sc_is_tie (fun vs H Q E h => ?_) (fun f cdv A outer s H vs Q E hr h => ?_)
  · obtain ⟨p, n, k, rfl, _⟩ := h
    rfl
  · obtain ⟨p, n, k, rfl, hp, ⟨hk1, hk2, hk3, hk4⟩, q⟩ := h
    refine ⟨_, (pss_cons (ps_if (PW.pt (pw_or (pt_not (pt_val (pe_callB (call_isiK (K := K) rfl) (by rfl) T.n_isinstance PyProof.Rows.boot_isinstance (pa_cons (pv 0) (pa_cons (pe_bltn (v := .ty "tuple") (by rfl) T.n_tuple (by decide +kernel) rfl) pa_nil))))) (pw_or1 (pt_cmpR op_ne (pe_callB (call_len_seqK (K := K) rfl) (by rfl) T.n_len PySem.boot_len (pa_cons (pv 0) pa_nil)) pe_int (nomark _)))))
      (pss_one (ps_ret pe_bl))
      pss_nil)
      (pss_one (ps_ret (pe_and (pcall (ok_is_name T) hr (pa_cons (pe_ix (ix_tupK (K := K) rfl) (pv 0) pe_int (fun _ _ => rfl)) pa_nil)) (pe_and (pcall (ok_is_number T) hr (pa_cons (pe_ix (ix_tupK (K := K) rfl) (pv 0) pe_int (fun _ _ => rfl)) (pa_cons pe_int (pa_cons (pv 1) pa_nil)))) (pe_one (pcall (ok_is_number T) hr (pa_cons (pe_ix (ix_tupK (K := K) rfl) (pv 0) pe_int (fun _ _ => rfl)) (pa_cons pe_int (pa_cons (pv 1) pa_nil)))))))))), ?_⟩
    have ht : TyX K H (.ref p) (.type "tuple") := .base (.tup hp)
    have hkt : PySem.W.kitOne K (.type "tuple") (.type "tuple") = some true := kit_ty (a := "tuple") (by decide +kernel)
    refine ⟨_, rfl, .ref p, .ty "tuple", _, _, true, rfl, .ty _, ht, hkt, _, rfl, iteF ?_⟩
    have h0 : atI [V.str k.1, .int (k.2.1 : Nat), .int (k.2.2 : Nat)] 0 = some (.str k.1) := rfl
    have h1 : atI [V.str k.1, .int (k.2.1 : Nat), .int (k.2.2 : Nat)] 1 = some (.int (k.2.1 : Nat)) := rfl
    have h2 : atI [V.str k.1, .int (k.2.1 : Nat), .int (k.2.2 : Nat)] 2 = some (.int (k.2.2 : Nat)) := rfl
    refine ⟨_, rfl, p, _, rfl, .inr (st_of hp), rfl, _, rfl, iteNS rfl ?_⟩
    refine ⟨_, rfl, p, _, 0, _, rfl, rfl, st_of hp, h0, .str k.1, .s k.1, rfl, ⟨rfl, hk2⟩, fun H1 e1 => ⟨_, rfl, ?_⟩⟩
    rw [show nameK (.s k.1) = true from hk1]
    have hp1 := e1 _ _ hp
    refine iteT ⟨_, rfl, p, _, 1, _, rfl, rfl, st_of hp1, h1, _, rfl, .int (k.2.1 : Nat), .int (k.2.1 : Nat), 1, n, rfl, .int _, ⟨_, rfl, ?_⟩⟩
    rw [num_in hk3.1 hk3.2]
    refine iteT ⟨_, rfl, p, _, 2, _, rfl, rfl, st_of hp1, h2, _, rfl, .int (k.2.2 : Nat), .int (k.2.2 : Nat), 1, n, rfl, .int _, ?_⟩
    rw [num_in hk4.1 hk4.2]
    exact q H1 e1
theorem ok_check_ties (T : Txt K mg AA) : Pr P w K mg base "check_ties" s_check_ties p_check_ties 3 (spCheckTies K) := by
  refine pr_mk T.f_check_ties sc_check_ties (fun vs H Q E h => ?_) (fun f cdv A outer s H vs Q E hr h => ?_)
  · obtain ⟨p, n, k, ks, rfl, _⟩ := h
    rfl
  · obtain ⟨a, n, us, ks, rfl, ha, hk, hks, hkl, q⟩ := h
    refine ⟨_, (pss_cons (ps_if (pt_not (pt_val (pe_callB call_isiT (by rfl) T.n_isinstance PyProof.Rows.boot_isinstance (pa_cons (pv 1) (pa_cons (pe_tup (pa_cons (pe_bltn (v := .ty "list") (by rfl) T.n_list (by decide +kernel) rfl) (pa_cons (pe_bltn (v := .ty "tuple") (by rfl) T.n_tuple (by decide +kernel) rfl) pa_nil))) pa_nil)))))
      (pss_one ps_never)
      pss_nil)
      (pss_one (ps_for PassesOwn.never rfl (pi_or (pi_enum (by rfl) T.n_enumerate (pa_cons (pv 1) pa_nil)) (pi_enumT (by rfl) T.n_enumerate (pa_cons (pv 1) pa_nil))) (pg_tup (by rfl) (pgs_cons (pg_name (i := 2) sc_check_ties.nd rfl (.inl rfl)) (pgs_cons (pg_name (i := 3) sc_check_ties.nd rfl (.inl rfl)) pgs_nil)))
      (pss_one (ps_if (pt_not (pt_val (pcall (ok_is_tie T) hr (pa_cons (pv 3) (pa_cons (pv 0) pa_nil)))))
      (pss_one ps_never)
      pss_nil))))), ?_⟩
    refine ⟨_, rfl, by show 2 ≤ sizeLine; decide, fun t1 ht1 => ?_⟩
    have e1 : Ex H (upd H t1 (.tup [.ty "list", .ty "tuple"])) := Ex.new ht1
    obtain ⟨tt, hty, hkk⟩ := sqlt_ty (ex_lt e1 ha)
    refine ⟨.ref a, t1, [.ty "list", .ty "tuple"], _, [.type "list", .type "tuple"], _, rfl, upd_same, .cons (.ty _) (.cons (.ty _) .nil), hty, hkk, _, rfl, iteF ?_⟩
    generalize upd H t1 (.tup [.ty "list", .ty "tuple"]) = H1 at e1
    have step : ∀ (i : Nat) (v : V) (σ : L2.St) (H5 H6 : Hp), i < us.length → (∃ y2 y3, σ = [some (.int (n : Int)), some (.ref a), y2, y3] ∧ Ex H1 H5) → YPair (fun i => some (.int (0 + (i : Nat)))) (fun i => us[i]?) i H5 v H6 → ∃ (T1 p : Addr) (u1 : V) (k : Knot), v = .ref T1 ∧ H6 = upd H5 T1 (.tup [u1, .ref p]) ∧ H5 T1 = none ∧ Ex H1 H6 ∧ H6 p = some (.tup [.str k.1, .int (k.2.1 : Nat), .int (k.2.2 : Nat)]) ∧ tieOk n k := fun i v σ H5 H6 hi hp hy => by
      obtain ⟨y2, y3, rfl, e2⟩ := hp
      obtain ⟨T1, u1, u2, rfl, hT, rfl, g1, g2⟩ := hy
      have hik : i < ks.length := by rw [← hk.1]; exact hi
      obtain ⟨p, rfl, hp⟩ := hk.2 i u2 ks[i] g2 (List.getElem?_eq_getElem hik)
      have e3 : Ex H5 (upd H5 T1 (.tup [u1, .ref p])) := Ex.new hT
      exact ⟨T1, p, u1, ks[i], rfl, rfl, hT, e2.trans e3, ((e1.trans e2).trans e3) _ _ hp, hks _ (List.getElem_mem hik)⟩
    rcases ha with ha | ha
    · refine .inl ⟨_, rfl, a, us, rfl, ex_l e1 ha, ?_⟩
      refine for_it (walk_enum (xs := us)) (fun i σ H' => ∃ y2 y3, σ = [some (.int (n : Int)), some (.ref a), y2, y3] ∧ Ex H1 H') ⟨none, none, rfl, Ex.refl _⟩ (fun i σ H' _ hp => ?_) (fun i v σ H5 H6 hi hp hy => ?_) (fun σ H' hp => ?_)
      · obtain ⟨_, _, _, e⟩ := hp
        exact ex_l (e1.trans e) ha
      · obtain ⟨T1, u1, u2, hv, hT, hH, g1, g2⟩ := hy
        obtain ⟨T1, p, u1, k, rfl, rfl, hT, x6, hp6, hok⟩ := step i v σ H5 H6 hi hp ⟨T1, .int (0 + (i : Nat)), u2, hv, hT, by rw [hH, ← Option.some.inj g1, Int.zero_add], rfl, g2⟩
        obtain ⟨y2, y3, rfl, e2⟩ := hp
        refine ⟨T1, _, rfl, st_of upd_same, rfl, _, _, rfl, _, _, rfl, rfl, ?_⟩
        exact ⟨_, rfl, _, rfl, p, n, k, rfl, hp6, hok, fun H7 e7 => ⟨_, rfl, iteF ⟨_, _, rfl, x6.trans e7⟩⟩⟩
      · obtain ⟨_, _, rfl, e⟩ := hp
        exact q _ (e1.trans e)
    · refine .inr ⟨_, rfl, a, us, rfl, ex_t e1 ha, ?_⟩
      refine for_it (walk_enumT (k := 0) (xs := us)) (fun i σ H' => ∃ y2 y3, σ = [some (.int (n : Int)), some (.ref a), y2, y3] ∧ Ex H1 H') ⟨none, none, rfl, Ex.refl _⟩ (fun i σ H' _ hp => ?_) (fun i v σ H5 H6 hi hp hy => ?_) (fun σ H' hp => ?_)
      · obtain ⟨_, _, _, e⟩ := hp
        exact ex_t (e1.trans e) ha
      · obtain ⟨T1, p, u1, k, rfl, rfl, hT, x6, hp6, hok⟩ := step i v σ H5 H6 hi hp hy
        obtain ⟨y2, y3, rfl, e2⟩ := hp
        refine ⟨T1, _, rfl, st_of upd_same, rfl, _, _, rfl, _, _, rfl, rfl, ?_⟩
        exact ⟨_, rfl, _, rfl, p, n, k, rfl, hp6, hok, fun H7 e7 => ⟨_, rfl, iteF ⟨_, _, rfl, x6.trans e7⟩⟩⟩
      · obtain ⟨_, _, rfl, e⟩ := hp
        exact q _ (e1.trans e)
end
end Eyes

set_option Elab.async false
set_option linter.all false
set_option maxRecDepth 100000
set_option maxHeartbeats 4000000
/-! Worlds: how one is made, its names and partings. -/
namespace Eyes
open PySem PySem.Spec PyProof.Rows L2 Evl TL
def wfl (n : Nat) (D : Addr) : List (Str × V) := putF "_partings" (.ref D) (putF "many" (.int (n : Int)) [])
section
variable {n : Nat} {D : Addr}
theorem wf_part : (wfl n D).lookup ("_partings" : Str) = some (.ref D) := by
  unfold wfl
  rw [lookup_putF, if_pos rfl]
theorem wf_many : (wfl n D).lookup ("many" : Str) = some (.int (n : Int)) := by
  unfold wfl
  rw [lookup_putF, if_neg (by decide +kernel), lookup_putF, if_pos rfl]
theorem wf_no {m : Str} (h1 : ¬ m = ("_partings" : Str)) (h2 : ¬ m = ("many" : Str)) : (wfl n D).lookup m = none := by
  unfold wfl
  rw [lookup_putF, if_neg h1, lookup_putF, if_neg h2]
  rfl
end
def WorldAt (C : Addr) (H : Hp) (v : V) (n : Nat) (f : Vw) : Prop := ∃ p dx D, v = .ref p ∧ H p = some (.ins C dx (wfl n D)) ∧ VwAt H D n f
theorem WorldAt.mono {C : Addr} {H H' : Hp} {v : V} {n : Nat} {f : Vw} (e : Ex H H') (h : WorldAt C H v n f) : WorldAt C H' v n f := by
  obtain ⟨p, dx, D, h1, h2, h3⟩ := h
  exact ⟨p, dx, D, h1, e _ _ h2, h3.mono e⟩
def spInitW (K : PySem.W.Frag) (C : Addr) : Sp := fun vs H Q _ => ∃ (x dx a : Addr) (n : Nat) (us : List V) (ks : List Knot) (G : Hp), vs = [.ref x, .int (n : Int), .ref a] ∧ G x = none ∧ Ex G H ∧ H x = some (.ins C dx []) ∧ SqLT K G a us ∧ Knots G us ks ∧ ks.length < 64 ∧ (∀ k ∈ ks, tieOk n k) ∧ 1 ≤ n ∧ n ≤ 2400 ∧
  ∀ H' ys, Ex G H' → ys.Perm ((knotsV n ks).map (·.1)) → sortedS ys = true → WorldAt C H' (.ref x) n (seenV n (knotsV n ks) ys) → Q .non H'
def spEyesW (C : Addr) : Sp := fun vs H Q _ => ∃ (v : V) (n : Nat) (f : Vw), vs = [v] ∧ WorldAt C H v n f ∧ ∀ l H', Ex H H' → H l = none → H' l = some (.lst ((f.map (·.1)).map V.str)) → Q (.ref l) H'
def spPartsW (C : Addr) : Sp := fun vs H Q _ => ∃ (v : V) (n : Nat) (f : Vw), vs = [v] ∧ WorldAt C H v n f ∧ ∀ D H', Ex H H' → H D = none → VwAt H' D n f → Q (.ref D) H'
def spNamedW (C : Addr) : Sp := fun vs H Q _ => ∃ (v : V) (n : Nat) (f : Vw) (t : Str), vs = [v, .str t] ∧ n ≤ 4096 ∧ WorldAt C H v n f ∧ ∀ r H', Ex H H' → H' r = some (.tup (nvs ((wGet f t).getD (alone n)))) → Q (.ref r) H'
def spLenW (C : Addr) : Sp := fun vs H Q _ => ∃ (v : V) (n : Nat) (f : Vw), vs = [v] ∧ n ≤ 4096 ∧ WorldAt C H v n f ∧ Q (.int (n : Int)) H
section
variable {P : Program} {w : World} {K : PySem.W.Frag} {mg : Str → Option Value} {base : Heap} {AA : Adr}
theorem world_len {vs : List V} {H : Hp} {Q : VK} {E : XK} (h : spInitW K AA.World vs H Q E) : vs.length = p_World___init.length := by
  obtain ⟨x, dx, a, n, us, ks, G, rfl, _⟩ := h
  rfl
theorem world_body (T : Txt K mg AA) (f : Addr) (cdv : Value) (A : Around) (outer : List Env) (s : Shared) (H : Hp) (vs : List V) (Q : VK) (E : XK) (hr : Room 4 (A.deeper (envOfC "World.__init__" (defScope s_World___init) s.heap.objs.size f cdv))) (h : spInitW K AA.World vs H Q E) :
    ∃ t, PSs (cxOf CX0 P w K mg base n_World___init "World.__init__" (defScope s_World___init) f cdv A outer s H E).nox (defBody s_World___init) t ∧ t { nx := fun _ H' => Q .non H', rt := Q } (L2.start n_World___init vs) H := by
  obtain ⟨x, dx, a, n, us, ks, G, rfl, hG, ex, hx, ha, hk, hkl, hks, h1, h2, q⟩ := h
  refine ⟨_, (pss_cons (ps_expr (pcall (ok_check_many T) hr (pa_cons (pv 1) pa_nil)))
      (pss_cons (ps_expr (pcall (ok_check_ties T) hr (pa_cons (pv 1) (pa_cons (pv 2) pa_nil))))
      (pss_cons (ps_fld (pv 0) (pv 1) rfl)
      (pss_one (ps_fld (pv 0) (pcall (ok_counting T) hr (pa_cons (pv 1) (pa_cons (pcall (ok_tied_partings T) hr (pa_cons (pv 1) (pa_cons (pv 2) pa_nil))) pa_nil))) rfl))))), ?_⟩
  refine ⟨_, rfl, n, rfl, h1, h2, ?_⟩
  refine ⟨_, rfl, _, rfl, a, n, us, ks, rfl, ex_lt ex ha, hk.mono ex, hks, by omega, fun H1 e1 => ?_⟩
  have x1 := ex.trans e1
  refine ⟨_, rfl, _, rfl, x, AA.World, dx, _, rfl, e1 _ _ hx, T.c_World, T.a_World_many, by decide, ?_⟩
  have x2 := x1.mut (o := .ins AA.World dx (putF "many" (.int (n : Int)) [])) hG
  have hx2 := upd_same (H := H1) (a := x) (o := HO.ins AA.World dx (putF "many" (.int (n : Int)) []))
  generalize upd H1 x (.ins AA.World dx (putF "many" (.int (n : Int)) [])) = H2 at x2 hx2
  have hin : ∀ k ∈ ks, 1 ≤ k.2.1 ∧ k.2.1 ≤ n ∧ 1 ≤ k.2.2 ∧ k.2.2 ≤ n := fun k hk => ⟨(hks k hk).2.2.1.1, (hks k hk).2.2.1.2, (hks k hk).2.2.2.1, (hks k hk).2.2.2.2⟩
  refine ⟨_, rfl, _, rfl, _, rfl, n, a, us, ks, rfl, by omega, ex_lt x2 ha, hk.mono x2, by omega, hin, fun D1 H3 e3 hD1 hV => ?_⟩
  refine ⟨n, D1, _, rfl, by omega, hV, Nat.lt_of_le_of_lt (knotsV_len n ks) hkl, knotsV_nodup n ks, fun D2 H4 ys e4 hD2 hys hso hV2 => ?_⟩
  have hx4 := e4 _ _ (e3 _ _ hx2)
  have x4 := (x2.trans e3).trans e4
  refine ⟨_, rfl, x, AA.World, dx, _, rfl, hx4, T.c_World, T.a_World_partings, by show 1 < 1000; decide, ?_⟩
  obtain ⟨W, g1, g2, g3⟩ := hV2
  have hne : D2 ≠ x := fun z => by
    rw [z, hx4] at g1
    cases g1
  refine q _ ys (x4.mut hG) hys hso ⟨x, dx, D2, rfl, upd_same, W, (upd_ne hne).trans g1, g2, fun e he => ⟨?_, (g3 e he).2⟩⟩
  have g := (g3 e he).1
  rw [upd_ne fun z => by rw [z, hx4] at g; cases g]
  exact g
theorem ok_World_eyes (T : Txt K mg AA) : PrM P w K mg base AA.World "eyes" p_World_eyes 1 (spEyesW AA.World) := by
  refine prm_mk T.t_World_eyes sc_World_eyes (fun vs H Q E h => ?_) (fun f cdv A outer s H vs Q E hr h => ?_)
  · obtain ⟨v, n, f, rfl, _⟩ := h
    rfl
  · obtain ⟨v, n, f, rfl, ⟨p, dx, D, rfl, hp, W, g1, g2, g3⟩, q⟩ := h
    refine ⟨_, (pss_one (ps_ret (pe_callTy (call_list_dK rfl) (by rfl) T.n_list PyProof.Rows.boot_list (pa_cons (pe_fldK (K := K) rfl (pv 0) rfl) pa_nil)))), ?_⟩
    refine ⟨_, rfl, p, AA.World, dx, _, _, rfl, hp, T.c_World, T.a_World_partings, wf_part, D, _, rfl, g1, fun l hl => ?_⟩
    have e : ((vK W).map fun kv => kV kv.1) = (f.map (·.1)).map V.str := by
      rw [← g2]
      unfold vK vW
      rw [List.map_map, List.map_map, List.map_map]
      rfl
    rw [e]
    exact q l _ (Ex.new hl) hl upd_same
theorem ok_World_partings (T : Txt K mg AA) : PrM P w K mg base AA.World "partings" p_World_partings 1 (spPartsW AA.World) := by
  refine prm_mk T.t_World_partings sc_World_partings (fun vs H Q E h => ?_) (fun f cdv A outer s H vs Q E hr h => ?_)
  · obtain ⟨v, n, f, rfl, _⟩ := h
    rfl
  · obtain ⟨v, n, f, rfl, ⟨p, dx, D, rfl, hp, W, g1, g2, g3⟩, q⟩ := h
    refine ⟨_, (pss_one (ps_ret (pe_callTy call_dictD (by rfl) T.n_dict PyProof.Rows.boot_dict (pa_cons (pe_fldK (K := K) rfl (pv 0) rfl) pa_nil)))), ?_⟩
    refine ⟨_, rfl, p, AA.World, dx, _, _, rfl, hp, T.c_World, T.a_World_partings, wf_part, D, _, rfl, .inl g1, fun l hl => ?_⟩
    exact q l _ (Ex.new hl) hl ⟨W, upd_same, g2, fun e he => ⟨Ex.new hl _ _ (g3 e he).1, (g3 e he).2⟩⟩
theorem ok_World___len (T : Txt K mg AA) : PrM P w K mg base AA.World "__len__" p_World___len 1 (spLenW AA.World) := by
  refine prm_mk T.t_World___len sc_World___len (fun vs H Q E h => ?_) (fun f cdv A outer s H vs Q E hr h => ?_)
  · obtain ⟨v, n, f, rfl, _⟩ := h
    rfl
  · obtain ⟨v, n, f, rfl, hn, ⟨p, dx, D, rfl, hp, hV⟩, q⟩ := h
    refine ⟨_, (pss_one (ps_ret (pe_lenRg (by rfl) T.n_len (prg_1 (by rfl) T.n_range (pe_fldK (K := K) rfl (pv 0) rfl))))), ?_⟩
    refine ⟨_, rfl, p, AA.World, dx, _, _, rfl, hp, T.c_World, T.a_World_many, wf_many, n, rfl, RgOk.of_le (by omega) (by omega) (by omega) (by omega), ?_⟩
    rw [show ((n : Int) - 0).toNat = n by omega]
    exact q
end
end Eyes

set_option Elab.async false
set_option linter.all false
set_option maxRecDepth 100000
set_option maxHeartbeats 4000000
/-! Worlds: text, str, repr. -/
namespace Eyes
open PySem PySem.Spec PyProof.Rows L2 Evl TL
/-! ### the text of a world -/
def natS (n : Nat) : Str := Str.ofString (toString (n : Int))
theorem natS_len {n : Nat} (h : n ≤ 4096) : (natS n).length ≤ 4 := toString_length_le (by omega) (by decide) (by omega)
theorem natS_log {n : Nat} (h : n ≤ 4096) : ((n : Nat) : Int).natAbs.log2 < 1920 := by
  rw [Int.natAbs_natCast]
  by_cases h0 : n = 0
  · subst h0
    decide
  · refine (Nat.log2_lt h0).mpr (Nat.lt_of_le_of_lt h ?_)
    exact Nat.lt_of_lt_of_le (show 4096 < 2 ^ 13 by decide) (Nat.pow_le_pow_right (by decide) (by decide))
theorem sumB {l : List Str} {c : Nat} (h : ∀ s ∈ l, s.length ≤ c) : (l.map (·.length)).sum ≤ l.length * c := by
  induction l with
  | nil => exact Nat.zero_le _
  | cons a l ih =>
    rw [List.map_cons, List.sum_cons, List.length_cons, Nat.succ_mul]
    have := ih fun s hs => h s (List.mem_cons_of_mem _ hs)
    have := h a List.mem_cons_self
    omega
theorem join_len {S : Str} {l : List Str} {c : Nat} (h : ∀ s ∈ l, s.length ≤ c) : (Txt.join S l).length ≤ l.length * (c + S.length) := by
  rw [len_tl, TL.join_eq, tl_join]
  have h1 := joinL_len (tl S) (l.map tl)
  have h2 : ((l.map tl).map List.length).sum ≤ l.length * c := by
    rw [List.map_map]
    have h3 := sumB h
    have e : (l.map (·.length)) = l.map (List.length ∘ tl) := List.map_congr_left fun s _ => len_tl s
    rw [← e]
    exact h3
  rw [List.length_map, ← len_tl] at h1
  rw [Nat.mul_add, Nat.mul_comm l.length S.length]
  omega
def rowS (t : Str) (p : List Nat) : Str := t ++ Str.ofString " " ++ Txt.join (Str.ofString " ") (p.map natS) ++ Str.ofString "\n"
def headS (n : Nat) : Str := Str.ofString "cases " ++ natS n ++ Str.ofString "\n"
def chapS (n : Nat) (f : Vw) : Str := headS n ++ Txt.join (Str.ofString "") (f.map fun e => rowS e.1 e.2)
def fewV (n : Nat) (f : Vw) : Prop := n ≤ 4096 ∧ f.length ≤ 64 ∧ ∀ e ∈ f, e.1.length ≤ 1000 ∧ IsP n e.2
theorem items_len {n : Nat} {p : List Nat} (hn : n ≤ 4096) (hP : IsP n p) : (∀ s ∈ p.map natS, s.length ≤ 4) ∧ (Txt.join (Str.ofString " ") (p.map natS)).length ≤ n * 5 := by
  have h : ∀ s ∈ p.map natS, s.length ≤ 4 := fun s hs => by
    obtain ⟨x, hx, rfl⟩ := List.mem_map.mp hs
    obtain ⟨i, hi, rfl⟩ := List.getElem_of_mem hx
    have hi2 : i < n := by rw [← hP.len]; exact hi
    have lo := hP.lo (i + 1) (by omega) (by omega)
    have e := itm_get (p := p) (x := i + 1) (by omega) (by omega)
    rw [Nat.add_sub_cancel, List.getElem?_eq_getElem hi] at e
    rw [Option.some.inj e]
    exact natS_len (by omega)
  refine ⟨h, ?_⟩
  have := join_len (S := Str.ofString " ") h
  rw [List.length_map, hP.len] at this
  exact this
theorem row_len {n : Nat} {t : Str} {p : List Nat} (hn : n ≤ 4096) (hP : IsP n p) (ht : t.length ≤ 1000) : (rowS t p).length ≤ 25000 := by
  have := (items_len hn hP).2
  unfold rowS
  rw [Str.length_append, Str.length_append, Str.length_append]
  have e1 : (Str.ofString " ").length = 1 := by decide +kernel
  have e2 : (Str.ofString "\n").length = 1 := by decide +kernel
  omega
theorem head_len {n : Nat} (hn : n ≤ 4096) : (headS n).length ≤ 11 := by
  have := natS_len hn
  unfold headS
  rw [Str.length_append, Str.length_append]
  have e1 : (Str.ofString "cases ").length = 6 := by decide +kernel
  have e2 : (Str.ofString "\n").length = 1 := by decide +kernel
  omega
theorem rows_len {n : Nat} {f : Vw} (h : fewV n f) : ∀ s ∈ f.map (fun e => rowS e.1 e.2), s.length ≤ 25000 := fun s hs => by
  obtain ⟨e, he, rfl⟩ := List.mem_map.mp hs
  exact row_len h.1 (h.2.2 e he).2 (h.2.2 e he).1
theorem chap_join {n : Nat} {f : Vw} : Txt.join (Str.ofString "") (headS n :: f.map fun e => rowS e.1 e.2) = chapS n f := by
  refine ext_tl ?_
  unfold chapS
  have e : tl (Str.ofString "") = [] := rfl
  rw [tl_append, TL.join_eq, tl_join, TL.join_eq, tl_join, e, joinL_nil, joinL_nil]
  rfl
theorem empty_app (t : Str) : Str.empty ++ t = t := ext_tl (by rw [tl_append]; rfl)
def spTextW (C : Addr) : Sp := fun vs H Q _ => ∃ (v : V) (n : Nat) (f : Vw), vs = [v] ∧ fewV n f ∧ WorldAt C H v n f ∧ ∀ H', Ex H H' → Q (.str (chapS n f)) H'
def reprS (n : Nat) : Str := Str.ofString "World(" ++ natS n ++ Str.ofString " cases)"
def spReprW (C : Addr) : Sp := fun vs H Q _ => ∃ (v : V) (n : Nat) (f : Vw), vs = [v] ∧ n ≤ 4096 ∧ WorldAt C H v n f ∧ Q (.str (reprS n)) H
section
variable {P : Program} {w : World} {K : PySem.W.Frag} {mg : Str → Option Value} {base : Heap} {AA : Adr}
theorem ok_World_text (T : Txt K mg AA) : PrM P w K mg base AA.World "text" p_World_text 1 (spTextW AA.World) := by
  refine prm_mk T.t_World_text sc_World_text (fun vs H Q E h => ?_) (fun f cdv A outer s H vs Q E hr h => ?_)
  · obtain ⟨v, n, f, rfl, _⟩ := h
    rfl
  · obtain ⟨v, n, f, rfl, hf, ⟨p, dx, D, rfl, hp, W, g1, g2, g3⟩, q⟩ := h
    refine ⟨_, (pss_cons (ps_set (i := 1) sc_World_text.nd rfl (.inl rfl) (pe_lst (pa_cons (pe_joined (PJ.cons pe_str (PJ.cons (pe_fmt (pe_fldK (K := K) rfl (pv 0) rfl)) (PJ.cons pe_str PJ.nil)))) pa_nil)))
      (pss_cons (ps_lock (ps_for PassesOwn.never rfl (pi_items (pe_fldK (K := K) rfl (pv 0) rfl)) (pg_tup (by rfl) (pgs_cons (pg_name (i := 2) sc_World_text.nd rfl (.inl rfl)) (pgs_cons (pg_name (i := 3) sc_World_text.nd rfl (.inl rfl)) pgs_nil)))
      (pss_cons (ps_set (i := 4) sc_World_text.nd rfl (.inl rfl) (pe_join pe_str (pe_lc (own := [("item", 5)]) (g := gName 5) (tt := tYes) rfl sc_World_text.nd (pi_tup (pv 3)) (blkOk_by (own := [("item", 5)]) (N := n_World_text) (sc := defScope s_World_text) (by decide +kernel)) (fun _ _ _ _ _ => (pg_name (i := 5) sc_World_text.nd rfl (.inl rfl))) (fun _ _ _ _ _ => pts_nil) (fun _ _ _ _ _ => (pe_callTy call_str_int (by rfl) T.n_str PyProof.Rows.boot_str (pa_cons (pv 5) pa_nil))))))
      (pss_one (ps_expr (pe_bm PySem.F.plainAttrs_list PySem.F.slot_list_append PySem.F.type_list_append mt_append (pv 1) (pa_cons (pe_joined (PJ.cons (pe_fmt (pv 2)) (PJ.cons pe_str (PJ.cons (pe_fmt (pv 4)) (PJ.cons pe_str PJ.nil))))) pa_nil)))))))
      (pss_one (ps_ret (pe_join pe_str (pv 1)))))), ?_⟩
    have hn := hf.1
    have e1 : (Str.ofString "cases ").length = 6 := by decide +kernel
    have e2 : (Str.ofString "\n").length = 1 := by decide +kernel
    have e3 : (Str.ofString " ").length = 1 := by decide +kernel
    have hl := natS_len hn
    have big : 16777216 ≤ sizeLine := by rw [sizeLine_eq]; decide
    refine ⟨_, rfl, ?_, _, rfl, p, AA.World, dx, _, _, rfl, hp, T.c_World, T.a_World_many, wf_many, .inr ⟨n, rfl, natS_log hn, natS n, rfl, ?_, Str.ofString "\n", rfl, ?_, ?_⟩⟩
    · rw [empty_app, e1]
      omega
    · rw [empty_app, Str.length_append, e1]
      omega
    · rw [empty_app, Str.length_append, Str.length_append, e1, e2]
      omega
    rw [empty_app, show Str.ofString "cases " ++ natS n ++ Str.ofString "\n" = headS n from rfl]
    show 1 ≤ sizeLine ∧ _
    refine ⟨by omega, fun L hL => ?_⟩
    have hLD : D ≠ L := fun z => by
      rw [← z, g1] at hL
      cases hL
    have hLp : p ≠ L := fun z => by
      rw [← z, hp] at hL
      cases hL
    have x0 := Ex.new (o := .lst [.str (headS n)]) hL
    have hL0 := upd_same (H := H) (a := L) (o := HO.lst [.str (headS n)])
    have hD0 := x0 _ _ g1
    have hp0 := x0 _ _ hp
    have g30 : ∀ e ∈ W, upd H L (.lst [.str (headS n)]) e.2.1 = some (.tup (nvs e.2.2)) ∧ IsP n e.2.2 := fun e he => ⟨x0 _ _ (g3 e he).1, (g3 e he).2⟩
    refine ⟨D, _, hD0, True.intro, fun od => ?_⟩
    have hex := ex_both (p := D) (o := .frz od (.dK (vK W))) x0
    have hfL : upd H D (.frz od (.dK (vK W))) L = none := (upd_ne fun z => hLD z.symm).trans hL
    have hfD : upd H D (.frz od (.dK (vK W))) D = some (.frz od (.dK (vK W))) := upd_same
    have hfp : upd H D (.frz od (.dK (vK W))) p = some (.ins AA.World dx (wfl n D)) := (upd_ne fun z => by rw [z, g1] at hp; cases hp).trans hp
    have hfW : ∀ e ∈ W, upd H D (.frz od (.dK (vK W))) e.2.1 = some (.tup (nvs e.2.2)) ∧ IsP n e.2.2 := fun e he => ⟨(upd_ne fun z => by
      have := (g3 e he).1
      rw [z, g1] at this
      cases this).trans (g3 e he).1, (g3 e he).2⟩
    have hxL : upd (upd H L (.lst [.str (headS n)])) D (.frz od (.dK (vK W))) L = some (.lst [.str (headS n)]) := (upd_ne fun z => hLD z.symm).trans hL0
    have eHf : Ex H (upd (upd H D (.frz od (.dK (vK W)))) D (.dK (vK W))) := fun a u h => by
      by_cases ha : a = D
      · rw [ha] at h ⊢
        rw [upd_same, ← g1, h]
      · rw [upd_ne ha, upd_ne ha]
        exact h
    generalize upd H D (.frz od (.dK (vK W))) = Hf at hex hfL hfD hfp hfW eHf
    generalize upd (upd H L (.lst [.str (headS n)])) D (.frz od (.dK (vK W))) = Hx at hex hxL ⊢
    refine ⟨_, rfl, p, AA.World, dx, _, _, rfl, hex _ _ hfp, T.c_World, T.a_World_partings, wf_part, D, od, vK W, rfl, hex _ _ hfD, ?_⟩
    have hvl : (vK W).length = W.length := by
      unfold vK
      rw [List.length_map]
    have hWf : W.length = f.length := by
      rw [← g2]
      unfold vW
      rw [List.length_map]
    refine for_it (walk_items (kvs := vK W)) (fun i σ H' => ∃ y2 y3 y4, σ = [some (.ref p), some (.ref L), y2, y3, y4, none] ∧ Ex Hf H' ∧ H' L = some (.lst ((headS n :: (f.take i).map fun e => rowS e.1 e.2).map V.str))) ⟨none, none, none, rfl, hex, hxL⟩ (fun i σ H' _ hp => ?_) (fun i v σ H1 H2 hi hp hy => ?_) (fun σ H' hp => ?_)
    · obtain ⟨_, _, _, _, e, _⟩ := hp
      exact e _ _ hfD
    · obtain ⟨y2, y3, y4, rfl, x1, hL1⟩ := hp
      obtain ⟨T1, u1, u2, rfl, hT, rfl, k1, k2⟩ := hy
      rw [hvl] at hi
      obtain ⟨e, he⟩ : ∃ e, W[i]? = some e := ⟨_, List.getElem?_eq_getElem hi⟩
      have hem := List.mem_of_getElem? he
      have hkv : (vK W)[i]? = some (.inr e.1, .ref e.2.1) := by
        unfold vK
        rw [List.getElem?_map, he]
        rfl
      dsimp only at k1 k2
      rw [hkv] at k1 k2
      have k1 : V.str e.1 = u1 := Option.some.inj k1
      have k2 : V.ref e.2.1 = u2 := Option.some.inj k2
      subst k1
      subst k2
      have hfe : f[i]? = some (e.1, e.2.2) := by
        rw [← g2]
        unfold vW
        rw [List.getElem?_map, he]
        rfl
      obtain ⟨ht1000, hP⟩ := hf.2.2 _ (List.mem_of_getElem? hfe)
      have ht1000 : e.1.length ≤ 1000 := ht1000
      have hP : IsP n e.2.2 := hP
      refine ⟨T1, _, rfl, st_of upd_same, rfl, _, _, rfl, _, _, rfl, rfl, ?_⟩
      have x2 := Ex.new (o := .tup [V.str e.1, .ref e.2.1]) hT
      have x12 := x1.trans x2
      have hL2 := x2 _ _ hL1
      have hrow := x12 _ _ (hfW e hem).1
      generalize upd H1 T1 (.tup [V.str e.1, .ref e.2.1]) = H3 at x12 hL2 hrow
      have hil := items_len hn hP
      have htake : (f.take (i + 1)).map (fun e => rowS e.1 e.2) = (f.take i).map (fun e => rowS e.1 e.2) ++ [rowS e.1 e.2.2] := by
        rw [List.take_add_one, hfe, List.map_append]
        rfl
      refine ⟨⟨_, rfl⟩, _, rfl, e.2.1, rfl, ⟨_, st_of hrow⟩, fun B hB => lc_it (walk_tup (xs := nvs e.2.2)) (fun j H' => H3 B = none ∧ Ex H3 H' ∧ H' B = some (.lst ((e.2.2.take j).map fun x => V.str (natS x)))) ⟨hB, Ex.new hB, upd_same⟩ (fun j H' _ hp => st_of (hp.2.1 _ _ hrow)) (fun j v H5 H6 hj hp hy => ?_) (fun H' hp => ?_)⟩
      · obtain ⟨rfl, hv⟩ := hy
        obtain ⟨hB1, xb, hb⟩ := hp
        rw [nvs_len] at hj
        have hxj : e.2.2[j]? = some e.2.2[j] := List.getElem?_eq_getElem hj
        rw [nvs_get hxj] at hv
        obtain rfl := Option.some.inj hv
        have hj2 : j < n := by rw [← hP.len]; exact hj
        have lo := hP.lo (j + 1) (by omega) (by omega)
        have e5 := itm_get (p := e.2.2) (x := j + 1) (by omega) (by omega)
        rw [Nat.add_sub_cancel, hxj] at e5
        have e5 := Option.some.inj e5
        refine ⟨rfl, _, rfl, _, rfl, natS_log (by rw [e5]; omega), _, hb, ?_, hB1, xb.mut hB1, ?_⟩
        · rw [List.length_map, List.length_take]
          exact sz_lt (by omega)
        · rw [upd_same, List.take_add_one, hxj, List.map_append]
          rfl
      · obtain ⟨hB1, xb, hb⟩ := hp
        rw [nvs_len, List.take_length] at hb
        have hL4 := xb _ _ hL2
        refine ⟨_, B, e.2.2.map natS, rfl, rfl, .inl (sq_of (by rw [hb, List.map_map]; rfl)), ?_, ?_⟩
        · have := sumB hil.1
          rw [e3, Nat.mul_one]
          rw [List.length_map] at this ⊢
          rw [hP.len] at this ⊢
          omega
        have h1 := hil.2
        generalize hit : Txt.join (Str.ofString " ") (e.2.2.map natS) = items at h1 ⊢
        have hrs : rowS e.1 e.2.2 = e.1 ++ Str.ofString " " ++ items ++ Str.ofString "\n" := by
          unfold rowS
          rw [hit]
        have r1 : (Str.empty ++ e.1 ++ Str.ofString " " ++ items ++ Str.ofString "\n") = (e.1 ++ Str.ofString " " ++ items ++ Str.ofString "\n") := by rw [empty_app]
        refine ⟨_, rfl, .inl ⟨rfl, _, sq_of hL4⟩, _, rfl, .inl ⟨e.1, rfl, by omega, e.1, rfl, ?_, Str.ofString " ", rfl, ?_, _, rfl, .inl ⟨items, rfl, by omega, items, rfl, ?_, Str.ofString "\n", rfl, ?_, ?_⟩⟩⟩
        · rw [empty_app]
          omega
        · rw [empty_app, Str.length_append, e3]
          omega
        · rw [empty_app, Str.length_append, Str.length_append, e3]
          omega
        · rw [empty_app, Str.length_append, Str.length_append, Str.length_append, e3, e2]
          omega
        rw [r1]
        refine ⟨L, _, _, rfl, rfl, hL4, ?_, _, _, _, rfl, (x12.trans xb).mut hfL, ?_⟩
        · rw [List.length_map, List.length_cons, List.length_map, List.length_take]
          have := hf.2.1
          exact sz_lt (by omega)
        · rw [upd_same, htake, hrs, List.map_cons, List.map_cons, List.map_append]
          rfl
    · obtain ⟨y2, y3, y4, rfl, x1, hL1⟩ := hp
      rw [hvl, hWf, List.take_length] at hL1
      have hz : upd H' D (.dK (vK W)) L = some (.lst ((headS n :: f.map fun e => rowS e.1 e.2).map V.str)) := (upd_ne fun z => hLD z.symm).trans hL1
      refine ⟨x1 _ _ hfD, ⟨_, rfl⟩, _, rfl, Str.ofString "", L, headS n :: f.map fun e => rowS e.1 e.2, rfl, rfl, ?_⟩
      refine ⟨.inl (sq_of hz), ?_, ?_⟩
      · have s1 := sumB (rows_len hf)
        have s2 := head_len hn
        have e0 : (Str.ofString "").length = 0 := by decide +kernel
        have s3 := Nat.mul_le_mul_right 25000 hf.2.1
        rw [List.length_map] at s1
        rw [e0, Nat.mul_zero, List.map_cons, List.sum_cons]
        omega
      · rw [chap_join]
        exact q _ (eHf.trans (ex_both x1))
theorem ok_World___repr (T : Txt K mg AA) : PrM P w K mg base AA.World "__repr__" p_World___repr 1 (spReprW AA.World) := by
  refine prm_mk T.t_World___repr sc_World___repr (fun vs H Q E h => ?_) (fun f cdv A outer s H vs Q E hr h => ?_)
  · obtain ⟨v, n, f, rfl, _⟩ := h
    rfl
  · obtain ⟨v, n, f, rfl, hn, ⟨p, dx, D, rfl, hp, hV⟩, q⟩ := h
    refine ⟨_, (pss_one (ps_ret (pe_joined (PJ.cons pe_str (PJ.cons (pe_fmt (pe_fldK (K := K) rfl (pv 0) rfl)) (PJ.cons pe_str PJ.nil)))))), ?_⟩
    have e1 : (Str.ofString "World(").length = 6 := by decide +kernel
    have e2 : (Str.ofString " cases)").length = 7 := by decide +kernel
    have hl := natS_len hn
    have big : 16777216 ≤ sizeLine := by rw [sizeLine_eq]; decide
    refine ⟨_, rfl, ?_, _, rfl, p, AA.World, dx, _, _, rfl, hp, T.c_World, T.a_World_many, wf_many, .inr ⟨n, rfl, natS_log hn, natS n, rfl, ?_, Str.ofString " cases)", rfl, ?_, ?_⟩⟩
    · rw [empty_app, e1]
      omega
    · rw [empty_app, Str.length_append, e1]
      omega
    · rw [empty_app, Str.length_append, Str.length_append, e1, e2]
      omega
    rw [empty_app]
    exact q
theorem ok_World___str (T : Txt K mg AA) : PrM P w K mg base AA.World "__str__" p_World___str 2 (spTextW AA.World) := by
  refine prm_mk T.t_World___str sc_World___str (fun vs H Q E h => ?_) (fun f cdv A outer s H vs Q E hr h => ?_)
  · obtain ⟨v, n, f, rfl, _⟩ := h
    rfl
  · obtain ⟨v, n, f, rfl, hf, ⟨p, dx, D, rfl, hp, hV⟩, q⟩ := h
    refine ⟨_, (pss_one (ps_ret (pe_callTy SkE.call_str_str (by rfl) T.n_str PyProof.Rows.boot_str (pa_cons (pmeth0 T.c_World (ok_World_text T) hr (pv 0)) pa_nil)))), ?_⟩
    refine ⟨_, rfl, p, dx, _, rfl, hp, wf_no (by decide +kernel) (by decide +kernel), .ref p, n, f, rfl, hf, ⟨p, dx, D, rfl, hp, hV⟩, fun H1 e1 => ?_⟩
    exact ⟨_, rfl, q H1 e1⟩
end
end Eyes

set_option Elab.async false
set_option linter.all false
set_option maxRecDepth 100000
set_option maxHeartbeats 4000000
namespace Eyes
open PySem PySem.Spec PyProof.Rows L2 Evl TL
def joinN (n : Nat) (p q : List Nat) : List Nat := mrgs p (numd n q)
/-! ### the lattice -/
def Le (n : Nat) (p q : List Nat) : Prop := ∀ x y, 1 ≤ x → x ≤ n → 1 ≤ y → y ≤ n → ali p x y → ali q x y
theorem Le.refl {n : Nat} {p : List Nat} : Le n p p := fun _ _ _ _ _ _ h => h
theorem Le.trans {n : Nat} {p q r : List Nat} (h : Le n p q) (g : Le n q r) : Le n p r := fun x y h1 h2 h3 h4 a => g x y h1 h2 h3 h4 (h x y h1 h2 h3 h4 a)
section
variable {n : Nat} {p q r : List Nat}
end
end Eyes

set_option Elab.async false
set_option linter.all false
set_option maxRecDepth 100000
set_option maxHeartbeats 4000000
/-! Worlds: the parting of a circle, alike, tells. -/
namespace Eyes
open PySem PySem.Spec PyProof.Rows L2 Evl TL
def spParting (CC CW : Addr) (m : Nat) : Sp := fun vs H Q _ => ∃ (v x : V) (n : Nat) (f : Vw) (c : Ci), vs = [v, x] ∧ 1 ≤ n ∧ n ≤ 4096 ∧ WorldAt CW H v n f ∧ CiAt CC H x c ∧ c.depth < m ∧ c.fine ∧ c.norm ∧ ∀ r H', Ex H H' → H' r = some (.tup (nvs (viewC n f c))) → Q (.ref r) H'
def spCheckCases : Sp := fun vs H Q _ => ∃ (a : Addr) (n : Nat) (ys : List Nat), vs = [.int (n : Int), .ref a] ∧ H a = some (.tup (nvs ys)) ∧ (∀ y ∈ ys, 1 ≤ y ∧ y ≤ n) ∧ Q .non H
def spAlike (CC CW : Addr) : Sp := fun vs H Q _ => ∃ (v x : V) (n : Nat) (f : Vw) (c : Ci) (a b : Nat), vs = [v, x, .int (a : Int), .int (b : Int)] ∧ 1 ≤ n ∧ n ≤ 4096 ∧ WorldAt CW H v n f ∧ CiAt CC H x c ∧ c.depth < 25 ∧ c.fine ∧ c.norm ∧ (1 ≤ a ∧ a ≤ n) ∧ (1 ≤ b ∧ b ≤ n) ∧ ∀ H', Ex H H' → Q (.bl (decide (itm (viewC n f c) a = itm (viewC n f c) b))) H'
def spTells (CC CW : Addr) : Sp := fun vs H Q _ => ∃ (v x y : V) (n : Nat) (f : Vw) (c d : Ci), vs = [v, x, y] ∧ 1 ≤ n ∧ n ≤ 4096 ∧ WorldAt CW H v n f ∧ CiAt CC H x c ∧ c.depth < 25 ∧ c.fine ∧ c.norm ∧ CiAt CC H y d ∧ d.depth < 25 ∧ d.fine ∧ d.norm ∧ ∀ H', Ex H H' → Q (.bl (inn (viewC n f c) (viewC n f d))) H'
section
variable {P : Program} {w : World} {K : PySem.W.Frag} {mg : Str → Option Value} {base : Heap} {AA : Adr}
end
end Eyes

set_option Elab.async false
set_option linter.all false
set_option maxRecDepth 100000
set_option maxHeartbeats 4000000
namespace Eyes
open PySem PySem.Spec PyProof.Rows L2 Evl TL
def Row (H : Hp) (n : Nat) (v : V) (p : List Nat) : Prop := ∃ a, v = .ref a ∧ H a = some (.tup (nvs p)) ∧ IsP n p
theorem Row.mono {H H' : Hp} {n : Nat} {v : V} {p : List Nat} (h : Row H n v p) (e : Ex H H') : Row H' n v p := by
  obtain ⟨a, h1, h2, h3⟩ := h
  exact ⟨a, h1, e _ _ h2, h3⟩
inductive Sms (C : Addr) (H : Hp) (n : Nat) : List V → List V → Prop
  | nil : Sms C H n [] []
  | cons {x y : V} {xs ys : List V} : Sm C H n x y → Sms C H n xs ys → Sms C H n (x :: xs) (y :: ys)
theorem Sms.len {C : Addr} {H : Hp} {n : Nat} {xs ys : List V} (h : Sms C H n xs ys) : xs.length = ys.length := by
  induction h with
  | nil => rfl
  | cons _ _ ih =>
    rw [List.length_cons, List.length_cons, ih]
theorem Sms.get {C : Addr} {H : Hp} {n : Nat} {xs ys : List V} (h : Sms C H n xs ys) : ∀ (i : Nat) (u v : V), xs[i]? = some u → ys[i]? = some v → Sm C H n u v := by
  induction h with
  | nil =>
    intro i u v e1 _
    cases e1
  | cons h1 _ ih =>
    intro i u v e1 e2
    match i, e1, e2 with
    | 0, e1, e2 =>
      cases e1
      cases e2
      exact h1
    | i + 1, e1, e2 => exact ih i u v e1 e2
theorem Sms.lst {C : Addr} {H : Hp} {n : Nat} {a b : Addr} {xs ys : List V} (h : Sms C H n xs ys) (ha : H a = some (.lst xs)) (hb : H b = some (.lst ys)) (hl : xs.length ≤ 90000) : Sm C H (n + 1) (.ref a) (.ref b) := .lst ha hb h.len hl h.get
theorem Sms.tup {C : Addr} {H : Hp} {n : Nat} {a b : Addr} {xs ys : List V} (h : Sms C H n xs ys) (ha : H a = some (.tup xs)) (hb : H b = some (.tup ys)) (hl : xs.length ≤ 90000) : Sm C H (n + 1) (.ref a) (.ref b) := .tup ha hb h.len hl h.get
theorem Sm.bl {C : Addr} {H : Hp} {n : Nat} {b c : Bool} (e : b = c) : Sm C H (n + 1) (.bl b) (.bl c) := e ▸ .sc (.inr (.inl ⟨_, rfl⟩))
theorem Sm.int' {C : Addr} {H : Hp} {n : Nat} {b : Int} : Sm C H (n + 1) (.int b) (.int b) := .sc (.inr (.inr (.inl ⟨_, rfl⟩)))
theorem Sm.str' {C : Addr} {H : Hp} {n : Nat} {b : Str} : Sm C H (n + 1) (.str b) (.str b) := .sc (.inr (.inr (.inr ⟨_, rfl⟩)))
end Eyes

set_option Elab.async false
set_option linter.all false
set_option maxRecDepth 100000
/-! Joining in steps: what is joined may be joined again. -/
namespace Eyes
open PySem PySem.Spec PyProof.Rows L2 Evl TL
theorem dd_mem {x : Ci} : ∀ {a cs : List Ci}, (∀ c ∈ a, c.ok) → (∀ c ∈ cs, c.ok) → x ∈ a ∨ x ∈ cs → x ∈ dd a cs
  | a, [], _, _, h => h.elim id fun z => by cases z
  | a, c :: r, h1, h2, h => by
    have hc := h2 c List.mem_cons_self
    have hr : ∀ d ∈ r, d.ok := fun d hd => h2 d (List.mem_cons_of_mem _ hd)
    unfold dd
    by_cases g : a.any (fun d => decide (d.str = c.str)) = true
    · rw [if_pos g]
      refine dd_mem h1 hr ?_
      rcases h with h | h
      · exact .inl h
      · rcases List.mem_cons.mp h with rfl | h
        · exact .inl ((any_str h1 hc).mp g)
        · exact .inr h
    · rw [if_neg g]
      refine dd_mem (fun d hd => ?_) hr ?_
      · rcases List.mem_append.mp hd with hd | hd
        · exact h1 d hd
        · rw [List.mem_singleton.mp hd]
          exact hc
      · rcases h with h | h
        · exact .inl (List.mem_append_left _ h)
        · rcases List.mem_cons.mp h with rfl | h
          · exact .inl (List.mem_append_right _ List.mem_cons_self)
          · exact .inr h
theorem flat_mem {k : Bool} {d : Ci} : ∀ {cs : List Ci}, d ∈ flat k cs ↔ ∃ c ∈ cs, d ∈ (if c.isK k = true then c.parts else [c])
  | [] => ⟨fun h => (by cases h), fun h => by
    obtain ⟨c, h, _⟩ := h
    cases h⟩
  | c :: r => by
    show d ∈ _ ++ flat k r ↔ _
    rw [List.mem_append, flat_mem (cs := r)]
    constructor
    · rintro (h | ⟨e, h1, h2⟩)
      · exact ⟨c, List.mem_cons_self, h⟩
      · exact ⟨e, List.mem_cons_of_mem _ h1, h2⟩
    · rintro ⟨e, h1, h2⟩
      rcases List.mem_cons.mp h1 with rfl | h1
      · exact .inl h2
      · exact .inr ⟨e, h1, h2⟩
section
variable {k : Bool}
theorem pts_mem {cs : List Ci} (h : ∀ c ∈ cs, c.norm) {d : Ci} : d ∈ pts k cs ↔ d ∈ flat k cs := by
  have hf := flat_ok (k := k) fun c hc => norm_of (h c hc)
  constructor
  · intro g
    rcases dd_sub g with z | z
    · cases z
    · exact z
  · intro g
    exact dd_mem (fun c hc => by cases hc) hf (.inr g)
theorem pts_nodup {cs : List Ci} (h : ∀ c ∈ cs, c.norm) : (pts k cs).Nodup := dd_is_nodup (fun c hc => by cases hc) (flat_ok (k := k) fun c hc => norm_of (h c hc)) List.nodup_nil
theorem mkC_sz (cs : List Ci) : (mkC k cs).size = sizes (pts k cs) := by
  by_cases h1 : (pts k cs).length = 1
  · obtain ⟨c, hc⟩ := List.length_eq_one_iff.mp h1
    rw [mkC_one hc, hc]
    exact (Nat.add_zero _).symm
  · rw [mkC_more h1]
    rfl
open Classical in
theorem sizes_erase {x : Ci} : ∀ {b : List Ci}, x ∈ b → sizes (b.erase x) + x.size = sizes b
  | y :: r, h => by
    by_cases e : y = x
    · subst e
      rw [List.erase_cons_head]
      exact Nat.add_comm _ _
    · rw [List.erase_cons_tail (by simpa using e)]
      have h2 : x ∈ r := (List.mem_cons.mp h).resolve_left fun z => e z.symm
      have := sizes_erase h2
      show y.size + sizes (r.erase x) + x.size = y.size + sizes r
      omega
open Classical in
theorem sub_sizes : ∀ {a b : List Ci}, a.Nodup → (∀ y ∈ a, y ∈ b) → sizes a ≤ sizes b
  | [], b, _, _ => Nat.zero_le _
  | x :: r, b, n, h => by
    obtain ⟨nx, nr⟩ := List.nodup_cons.mp n
    have hx : x ∈ b := h x List.mem_cons_self
    have h1 := sub_sizes (a := r) (b := b.erase x) nr fun y hy => (List.mem_erase_of_ne (by intro e; exact nx (e ▸ hy))).mpr (h y (List.mem_cons_of_mem _ hy))
    have h2 := sizes_erase hx
    show x.size + sizes r ≤ sizes b
    omega
open Classical in
end
end Eyes

set_option Elab.async false
set_option linter.all false
set_option maxRecDepth 100000
set_option maxHeartbeats 4000000
/-! The mathematics of worlds: what is not counted does not matter; a made circle sees what its parts see. -/
namespace Eyes
open PySem PySem.Spec PyProof.Rows L2 Evl TL
theorem seen1_self {n : Nat} {f : Vw} {t : Str} : (seen1 n f t).map (·.2) = (wGet f t).bind fun p => if p = alone n then none else some p := by
  unfold seen1
  cases wGet f t with
  | none => rfl
  | some p =>
    show Option.map _ (if p = alone n then none else some (t, p)) = if p = alone n then none else some p
    split <;> rfl
theorem seen1_name {n : Nat} {f : Vw} {y : Str} {e : Str × List Nat} (h : seen1 n f y = some e) : e.1 = y := by
  unfold seen1 at h
  cases hg : wGet f y with
  | none =>
    rw [hg] at h
    cases h
  | some p =>
    rw [hg] at h
    have h : (if p = alone n then none else some (y, p)) = some e := h
    split at h
    · cases h
    · cases h
      rfl
theorem seen_get {n : Nat} {f : Vw} {t : Str} : ∀ ys : List Str, wGet (seenV n f ys) t = if t ∈ ys then (wGet f t).bind (fun p => if p = alone n then none else some p) else none
  | [] => rfl
  | y :: ys => by
    have ih := seen_get (n := n) (f := f) (t := t) ys
    unfold seenV at ih ⊢
    by_cases hy : y = t
    · subst hy
      rw [if_pos List.mem_cons_self, ← seen1_self]
      cases hs : seen1 n f y with
      | none =>
        rw [List.filterMap_cons_none hs, ih, ← seen1_self, hs]
        split <;> rfl
      | some e =>
        rw [List.filterMap_cons_some hs]
        unfold wGet
        rw [List.find?_cons, decide_eq_true (seen1_name hs)]
    · have hm : (t ∈ y :: ys) ↔ t ∈ ys := ⟨fun h => (List.mem_cons.mp h).resolve_left fun z => hy z.symm, fun h => List.mem_cons_of_mem _ h⟩
      cases hs : seen1 n f y with
      | none =>
        rw [List.filterMap_cons_none hs, ih]
        simp only [hm]
      | some e =>
        rw [List.filterMap_cons_some hs]
        have : wGet (e :: ys.filterMap (seen1 n f)) t = wGet (ys.filterMap (seen1 n f)) t := by
          unfold wGet
          rw [List.find?_cons, decide_eq_false (by rw [seen1_name hs]; exact hy)]
        rw [this, ih]
        simp only [hm]
theorem wGet_none {f : Vw} {t : Str} (h : t ∉ f.map (·.1)) : wGet f t = none := by
  unfold wGet
  rw [List.find?_eq_none.mpr]
  · rfl
  · intro x hx z
    exact h (List.mem_map.mpr ⟨x, hx, of_decide_eq_true z⟩)
theorem seen_same {n : Nat} {f : Vw} {ys : List Str} (h : ys.Perm (f.map (·.1))) (t : Str) : (wGet (seenV n f ys) t).getD (alone n) = (wGet f t).getD (alone n) := by
  rw [seen_get]
  by_cases ht : t ∈ ys
  · rw [if_pos ht]
    cases wGet f t with
    | none => rfl
    | some p =>
      show (if p = alone n then none else some p).getD (alone n) = p
      split
      · rename_i e
        rw [e]
        rfl
      · rfl
  · rw [if_neg ht, wGet_none fun z => ht (h.mem_iff.mpr z)]
mutual
theorem viewC_congr {n : Nat} {f g : Vw} (h : ∀ t, (wGet f t).getD (alone n) = (wGet g t).getD (alone n)) : ∀ c : Ci, viewC n f c = viewC n g c
  | .eye t => h t
  | .node k ps => by
    show foldP n k (viewL n f ps) = foldP n k (viewL n g ps)
    rw [viewL_congr h ps]
theorem viewL_congr {n : Nat} {f g : Vw} (h : ∀ t, (wGet f t).getD (alone n) = (wGet g t).getD (alone n)) : ∀ ps : List Ci, viewL n f ps = viewL n g ps
  | [] => rfl
  | c :: r => by
    show viewC n f c :: viewL n f r = viewC n g c :: viewL n g r
    rw [viewC_congr h c, viewL_congr h r]
end
def Bnd (n : Nat) (k : Bool) (q r : List Nat) : Prop := if k = true then Le n r q else Le n q r
end Eyes

set_option Elab.async false
set_option linter.all false
set_option maxRecDepth 100000
set_option maxHeartbeats 4000000
/-! The law's chapter of a world. -/
namespace Eyes
open PySem PySem.Spec PyProof.Rows L2 Evl TL
theorem pi_tupQ {X : Cx} {K : PySem.W.Frag} (hK : X.K = K) {tg l : Expr} {tl : TE} (hl : PE X l tl) : PI X tg l (iTup K tl) := hK ▸ pi_tup hl
def tJoinK (K : PySem.W.Frag) (to te : TE) : TE := tM1 (fun x xs H Q => ∃ a p, ∃ ys : List Str, x = .str a ∧ xs = [.ref p] ∧ (SqL K H p (ys.map V.str) ∨ SqT K H p (ys.map V.str)) ∧
      (ys.map (·.length)).sum + ys.length * a.length ≤ 16777216 ∧ Q (.str (Txt.join a ys)) H) to te
theorem pe_joinK {X : Cx} {K : PySem.W.Frag} {o e : Expr} {to te : TE} {apos pos : Pos} (hK : X.K = K) (ho : PE X o to) (he : PE X e te) (hs : starEach [e] X.env = [(false, eval e X.env)] := by rfl) (hbase : attributeBase o "join" X.env (eval o X.env) = eval o X.env := by rfl) (hline : (apos.endLine == pos.line) = true := by rfl) :
    PE X (.Call (.Attribute o "join" apos) [e] [] pos) (tJoinK K to te) := hK ▸ pe_join ho he hs hbase hline
def scCh : Scope := { kind := ScopeKind.function, names := [(Str.ofString ".0", NameKind.local), (Str.ofString "_law_x", NameKind.local), (Str.ofString "_law_seen_here", NameKind.cell)], isGenerator := false, isCoroutine := false }
theorem seenV_few {n : Nat} {f : Vw} {ys : List Str} (hn : n ≤ 4096) (hl : f.length < 64) (hys : ys.Perm (f.map (·.1))) (hf : ∀ e ∈ f, e.1.length ≤ 1000) (hP : ∀ t, IsP n ((wGet f t).getD (alone n))) : fewV n (seenV n f ys) := by
  have hyl : ys.length = f.length := by
    have := hys.length_eq
    rw [List.length_map] at this
    exact this
  refine ⟨hn, ?_, fun e he => ?_⟩
  · have : (seenV n f ys).length ≤ ys.length := List.length_filterMap_le ..
    omega
  · unfold seenV at he
    obtain ⟨y, hy, hs⟩ := List.mem_filterMap.mp he
    have h1 := seen1_name hs
    have hym := hys.mem_iff.mp hy
    obtain ⟨x, hx, hxy⟩ := List.mem_map.mp hym
    refine ⟨by rw [h1, ← hxy]; exact hf x hx, ?_⟩
    unfold seen1 at hs
    have hp := hP y
    cases hg : wGet f y with
    | none =>
      rw [hg] at hs
      cases hs
    | some p =>
      rw [hg] at hs hp
      have hs : (if p = alone n then none else some (y, p)) = some e := hs
      split at hs
      · cases hs
      · cases hs
        exact hp
theorem seenV_nodup {n : Nat} {f : Vw} : ∀ {ys : List Str}, ys.Nodup → ((seenV n f ys).map (·.1)).Nodup
  | [], _ => List.nodup_nil
  | y :: ys, h => by
    rw [List.nodup_cons] at h
    have ih := seenV_nodup (n := n) (f := f) h.2
    unfold seenV at ih ⊢
    cases hs : seen1 n f y with
    | none =>
      rw [List.filterMap_cons_none hs]
      exact ih
    | some e =>
      rw [List.filterMap_cons_some hs, List.map_cons, List.nodup_cons]
      refine ⟨fun hm => ?_, ih⟩
      obtain ⟨x, hx, hxe⟩ := List.mem_map.mp hm
      obtain ⟨z, hz, hsz⟩ := List.mem_filterMap.mp hx
      have h1 := seen1_name hsz
      have h2 := seen1_name hs
      rw [← h2, ← hxe, h1] at h
      exact h.1 hz
def spChapter (K : PySem.W.Frag) : Sp := fun vs H Q _ => ∃ (n : Nat) (l : Addr) (f : Vw), vs = [.int (n : Int), .ref l] ∧ n ≤ 4096 ∧ VwAt H l n f ∧ f.length < 64 ∧ (f.map (·.1)).Nodup ∧ (∀ e ∈ f, e.1.length ≤ 1000) ∧
  ∀ H' ys, Ex H H' → ys.Perm (f.map (·.1)) → sortedS ys = true → Q (.str (chapS n (seenV n f ys))) H'
section
variable {P : Program} {w : World} {K : PySem.W.Frag} {mg : Str → Option Value} {base : Heap} {AA : Adr}
theorem ok_law_chapter (T : Txt K mg AA) : Pr P w K mg base "_law_chapter" s_law_chapter p_law_chapter 5 (spChapter K) := by
  refine pr_mk T.f_law_chapter sc_law_chapter (fun vs H Q E h => ?_) (fun f cdv A outer s H vs Q E hr h => ?_)
  · obtain ⟨n, l, f, rfl, _⟩ := h
    rfl
  · obtain ⟨n, l, f, rfl, hn, hV, hfl, hnd, hft, q⟩ := h
    refine ⟨_, (pss_cons (ps_set (i := 2) sc_law_chapter.nd rfl (.inr rfl) (pcall (ok_law_seen T) hr (pa_cons (pv 0) (pa_cons (pv 1) pa_nil))))
      (pss_one (ps_ret (pe_op op_add_str (pe_op op_add_str (pe_op op_add_str pe_str (pe_callTy call_str_int (by rfl) T.n_str PyProof.Rows.boot_str (pa_cons (pv 0) pa_nil))) pe_str) (pe_join pe_str (pe_lc (own := [("_law_x", 3)]) (g := gName 3) (tt := tYes) rfl sc_law_chapter.nd (pi_list (pe_callTy (call_list_dK rfl) (by rfl) T.n_list PyProof.Rows.boot_list (pa_cons (pv 2) pa_nil))) (blkOk_by (own := [("_law_x", 3)]) (N := n_law_chapter) (sc := defScope s_law_chapter) (by decide +kernel)) (fun _ _ _ _ _ => (pg_name (i := 3) sc_law_chapter.nd rfl (.inl rfl))) (fun _ _ _ _ _ => pts_nil) (fun _ _ _ _ _ => (pe_op op_add_str (pe_op op_add_str (pe_op op_add_str (pv 3) pe_str) (pe_joinK (K := K) rfl pe_str (pe_lc (own := [("_law_k", 4)]) (g := gName 4) (tt := tYes) rfl sc_law_chapter.nd (pi_tupQ (K := K) rfl (pe_dget (hu_of hr) (pv 2) (pv 3) (fun _ _ => rfl))) (blkOk_by (own := [("_law_k", 4)]) (N := n_law_chapter) (sc := scCh) (by decide +kernel)) (fun _ _ _ _ _ => (pg_name (i := 4) sc_law_chapter.nd rfl (.inl rfl))) (fun _ _ _ _ _ => pts_nil) (fun _ _ _ _ _ => (pe_callTy call_str_int (by rfl) T.n_str PyProof.Rows.boot_str (pa_cons (pv 4) pa_nil)))))) pe_str)))))))), ?_⟩
    refine ⟨_, rfl, _, rfl, n, l, f, rfl, hn, hV, hfl, hnd, fun D H1 ys e1 hD hys hso hV1 => ?_⟩
    have hf := seenV_few hn hfl hys hft hV.isP
    have q := fun H9 (e9 : Ex H1 H9) => q H9 ys (e1.trans e9) hys hso
    have hgn := seenV_nodup (n := n) (f := f) (hys.nodup_iff.mpr hnd)
    generalize seenV n f ys = g at hV1 hf q hgn
    obtain ⟨W, w1, w2, w3⟩ := hV1
    have e4 : (Str.ofString "cases ").length = 6 := by decide +kernel
    have e2 : (Str.ofString "\n").length = 1 := by decide +kernel
    have e3 : (Str.ofString " ").length = 1 := by decide +kernel
    have hl := natS_len hn
    have big : 16777216 ≤ sizeLine := by rw [sizeLine_eq]; decide
    have hWf : W.length = g.length := by
      rw [← w2]
      unfold vW
      rw [List.length_map]
    have hWn : (W.map (·.1)).Nodup := by
      rw [← w2] at hgn
      unfold vW at hgn
      rw [List.map_map] at hgn
      exact hgn
    refine ⟨_, rfl, n, rfl, natS_log hn, Str.ofString "cases ", natS n, rfl, rfl, ?_, Str.ofString "cases " ++ natS n, Str.ofString "\n", rfl, rfl, ?_, ⟨_, rfl⟩, _, rfl, D, vK W, rfl, w1, fun L hL => ?_⟩
    · rw [e4]
      omega
    · rw [Str.length_append, e4, e2]
      omega
    have hNL : ((vK W).map fun kv => kV kv.1) = (g.map (·.1)).map V.str := by
      rw [← w2]
      unfold vK vW
      rw [List.map_map, List.map_map, List.map_map]
      rfl
    rw [hNL]
    have x2 := Ex.new (o := .lst ((g.map (·.1)).map V.str)) hL
    have hL2 := upd_same (H := H1) (a := L) (o := HO.lst ((g.map (·.1)).map V.str))
    generalize upd H1 L (.lst ((g.map (·.1)).map V.str)) = H2 at x2 hL2
    refine ⟨L, rfl, ⟨_, sq_of hL2⟩, fun B hB => lc_it (walk_list (xs := (g.map (·.1)).map V.str)) (fun i H' => H2 B = none ∧ Ex H2 H' ∧ H' B = some (.lst (((g.take i).map fun e => rowS e.1 e.2).map V.str))) ⟨hB, Ex.new hB, upd_same⟩ (fun i H' _ hp => sq_of (hp.2.1 _ _ hL2)) (fun i v H3 H4 hi hp hy => ?_) (fun H' hp => ?_)⟩
    · obtain ⟨rfl, hv⟩ := hy
      obtain ⟨hB3, x3, h3⟩ := hp
      have hig : i < g.length := by
        rw [List.length_map, List.length_map] at hi
        exact hi
      have hiW : i < W.length := by omega
      obtain ⟨e, he⟩ : ∃ e, W[i]? = some e := ⟨_, List.getElem?_eq_getElem hiW⟩
      have hem := List.mem_of_getElem? he
      have hge : g[i]? = some (e.1, e.2.2) := by
        rw [← w2]
        unfold vW
        rw [List.getElem?_map, he]
        rfl
      rw [List.getElem?_map, List.getElem?_map, hge] at hv
      have hv : V.str e.1 = v := Option.some.inj hv
      subst hv
      obtain ⟨ht1000, hP⟩ := hf.2.2 _ (List.mem_of_getElem? hge)
      have ht1000 : e.1.length ≤ 1000 := ht1000
      have hP : IsP n e.2.2 := hP
      have hil := items_len hn hP
      have x23 := x2.trans x3
      have hrow := x23 _ _ (w3 e hem).1
      have hget : valV (vK W) (.inr e.1) = some (.ref e.2.1) := by
        rw [vK_get]
        cases hg : vGet W e.1 with
        | none => exact absurd rfl (vGet_none hg e hem)
        | some e2 =>
          have h1 : e2.1 = e.1 := vGet_name hg
          rw [nodup_inj hWn (List.mem_of_find?_eq_some hg) hem h1]
          rfl
      have htake : (g.take (i + 1)).map (fun e => rowS e.1 e.2) = (g.take i).map (fun e => rowS e.1 e.2) ++ [rowS e.1 e.2.2] := by
        rw [List.take_add_one, hge, List.map_append]
        rfl
      refine ⟨rfl, _, rfl, e.1, Str.ofString " ", rfl, rfl, ?_, ⟨_, rfl⟩, _, rfl, _, rfl, D, .ref e.2.1, rfl, by rw [← hget]; exact DGet.k (k := .inr e.1) (x23 _ _ w1), e.2.1, rfl, ⟨_, st_of hrow⟩, fun B2 hB2 => ?_⟩
      · rw [e3]
        omega
      refine lc_it (walk_tup (xs := nvs e.2.2)) (fun j H' => H4 B2 = none ∧ Ex H4 H' ∧ H' B2 = some (.lst ((e.2.2.take j).map fun x => V.str (natS x)))) ⟨hB2, Ex.new hB2, upd_same⟩ (fun j H' _ hp => st_of (hp.2.1 _ _ hrow)) (fun j v H5 H6 hj hp hy => ?_) (fun H' hp => ?_)
      · obtain ⟨rfl, hv⟩ := hy
        obtain ⟨hB1, xb, hb⟩ := hp
        rw [nvs_len] at hj
        have hxj : e.2.2[j]? = some e.2.2[j] := List.getElem?_eq_getElem hj
        rw [nvs_get hxj] at hv
        obtain rfl := Option.some.inj hv
        have hj2 : j < n := by rw [← hP.len]; exact hj
        have lo := hP.lo (j + 1) (by omega) (by omega)
        have e5 := itm_get (p := e.2.2) (x := j + 1) (by omega) (by omega)
        rw [Nat.add_sub_cancel, hxj] at e5
        have e5 := Option.some.inj e5
        refine ⟨rfl, _, rfl, _, rfl, natS_log (by rw [e5]; omega), _, hb, ?_, hB1, xb.mut hB1, ?_⟩
        · rw [List.length_map, List.length_take]
          exact sz_lt (by omega)
        · rw [upd_same, List.take_add_one, hxj, List.map_append]
          rfl
      · obtain ⟨hB1, xb, hb⟩ := hp
        rw [nvs_len, List.take_length] at hb
        have h34 := xb _ _ h3
        refine ⟨Str.ofString " ", B2, e.2.2.map natS, rfl, rfl, ?_⟩
        refine ⟨.inl (sq_of (by rw [hb, List.map_map]; rfl)), ?_, ?_⟩
        · have := sumB hil.1
          rw [e3, Nat.mul_one]
          rw [List.length_map] at this ⊢
          rw [hP.len] at this ⊢
          omega
        have h1 := hil.2
        generalize hit : Txt.join (Str.ofString " ") (e.2.2.map natS) = items at h1 ⊢
        have hrs : rowS e.1 e.2.2 = e.1 ++ Str.ofString " " ++ items ++ Str.ofString "\n" := by
          unfold rowS
          rw [hit]
        refine ⟨e.1 ++ Str.ofString " ", items, rfl, rfl, ?_, e.1 ++ Str.ofString " " ++ items, Str.ofString "\n", rfl, rfl, ?_, _, h34, ?_, hB3, (x3.trans xb).mut hB3, ?_⟩
        · rw [Str.length_append, e3]
          omega
        · rw [Str.length_append, Str.length_append, e3, e2]
          omega
        · rw [List.length_map, List.length_map, List.length_take]
          have := hf.2.1
          exact sz_lt (by omega)
        · rw [upd_same, htake, hrs, List.map_append]
          rfl
    · obtain ⟨hB3, x3, h3⟩ := hp
      have hgl : ((g.map (·.1)).map V.str).length = g.length := by rw [List.length_map, List.length_map]
      rw [hgl, List.take_length] at h3
      refine ⟨Str.ofString "", B, g.map fun e => rowS e.1 e.2, rfl, rfl, ?_⟩
      have s1 := sumB (rows_len hf)
      have s2 := join_len (S := Str.ofString "") (rows_len hf)
      have e0 : (Str.ofString "").length = 0 := by decide +kernel
      have s3 := Nat.mul_le_mul_right 25000 hf.2.1
      rw [List.length_map] at s1 s2
      rw [e0, Nat.add_zero] at s2
      have s4 := head_len hn
      unfold headS at s4
      refine ⟨.inl (sq_of h3), ?_, ?_⟩
      · rw [e0, Nat.mul_zero]
        omega
      have q := q H' (x2.trans x3)
      unfold chapS headS at q
      refine ⟨_, _, rfl, rfl, ?_, q⟩
      omega
end
end Eyes

set_option Elab.async false
set_option linter.all false
set_option maxRecDepth 100000
set_option maxHeartbeats 4000000
/-! A circle == a tuple. -/
namespace Eyes
open PySem PySem.Spec PyProof.Rows L2 Evl TL
def rEqOwnT (K : PySem.W.Frag) (C : Addr) (sp : Sp) : R2 := fun x y H Q => ∃ a dx fs b zs, x = .ref a ∧ H a = some (.ins C dx fs) ∧ y = .ref b ∧ H b = some (.tup zs) ∧ PySem.W.notFirst K C (.type "tuple") = true ∧ sp [.ref a, y] H Q (fun _ _ _ => False)
section
variable {X : Cx} {C : Addr} {j k : Nat} {ps : List Str} {sp : Sp}
end
def spEqT (C : Addr) : Sp := fun vs H Q _ => ∃ (x : V) (b : Addr) (c : Ci) (zs : List V), vs = [x, .ref b] ∧ CiAt C H x c ∧ H b = some (.tup zs) ∧ ∀ H', Ex H H' → Q (.bl false) H'
section
variable {P : Program} {w : World} {K : PySem.W.Frag} {mg : Str → Option Value} {base : Heap} {AA : Adr}
end
end Eyes

set_option Elab.async false
set_option linter.all false
set_option maxRecDepth 100000
set_option maxHeartbeats 4000000
/-! What a world tells of itself is as the law says. -/
namespace Eyes
open PySem PySem.Spec PyProof.Rows L2 Evl TL
inductive Sds (H : Hp) (n : Nat) : List V → List V → Prop
  | nil : Sds H n [] []
  | cons {x y : V} {xs ys : List V} : Sd H n x y → Sds H n xs ys → Sds H n (x :: xs) (y :: ys)
theorem Sds.len {H : Hp} {n : Nat} {xs ys : List V} (h : Sds H n xs ys) : xs.length = ys.length := by
  induction h with
  | nil => rfl
  | cons _ _ ih =>
    rw [List.length_cons, List.length_cons, ih]
theorem Sds.get {H : Hp} {n : Nat} {xs ys : List V} (h : Sds H n xs ys) : ∀ (i : Nat) (u v : V), xs[i]? = some u → ys[i]? = some v → Sd H n u v := by
  induction h with
  | nil =>
    intro i u v e1 _
    cases e1
  | cons h1 _ ih =>
    intro i u v e1 e2
    match i, e1, e2 with
    | 0, e1, e2 =>
      cases e1
      cases e2
      exact h1
    | i + 1, e1, e2 => exact ih i u v e1 e2
theorem Sds.lst {H : Hp} {n : Nat} {a b : Addr} {xs ys : List V} (h : Sds H n xs ys) (ha : H a = some (.lst xs)) (hb : H b = some (.lst ys)) (hl : xs.length ≤ 90000) : Sd H (n + 1) (.ref a) (.ref b) := .lst ha hb h.len hl h.get
theorem Sd.int' {H : Hp} {n : Nat} {i : Int} : Sd H (n + 1) (.int i) (.int i) := .sc (.inr (.inr (.inl ⟨_, rfl⟩)))
theorem Sd.str' {H : Hp} {n : Nat} {s : Str} : Sd H (n + 1) (.str s) (.str s) := .sc (.inr (.inr (.inr ⟨_, rfl⟩)))
theorem Sd.bl' {H : Hp} {n : Nat} {b c : Bool} (e : b = c) : Sd H (n + 1) (.bl b) (.bl c) := e ▸ .sc (.inr (.inl ⟨_, rfl⟩))
theorem Sd.row {H : Hp} {k n : Nat} {a b : Addr} {p : List Nat} (hn : n ≤ 4096) (hP : IsP n p) (ha : H a = some (.tup (nvs p))) (hb : H b = some (.tup (nvs p))) : Sd H (k + 2) (.ref a) (.ref b) :=
  .tup ha hb rfl (by rw [nvs_len, hP.len]; omega) fun i u v e1 e2 => by
    rw [e1] at e2
    cases e2
    unfold nvs at e1
    rw [List.getElem?_map] at e1
    obtain ⟨y, _, rfl⟩ := Option.map_eq_some_iff.mp e1
    exact .int'
theorem Sd.vw {H : Hp} {k n : Nat} {a b : Addr} {g : Vw} (hn : n ≤ 4096) (hl : g.length ≤ 1000) (hnd : (g.map (·.1)).Nodup) (ha : VwAt H a n g) (hb : VwAt H b n g) : Sd H (k + 3) (.ref a) (.ref b) := by
  obtain ⟨W, a1, a2, a3⟩ := ha
  obtain ⟨U, b1, b2, b3⟩ := hb
  have keys : ∀ {W : List VRow}, vW W = g → (vK W).map (·.1) = (g.map (·.1)).map Sum.inr := fun {W} h => by
    rw [← h]
    unfold vK vW
    rw [List.map_map, List.map_map, List.map_map]
    rfl
  have hU : U.length = g.length := by
    rw [← b2]
    unfold vW
    rw [List.length_map]
  refine .dct a1 b1 ((keys a2).trans (keys b2).symm) ?_ (by unfold vK; rw [List.length_map, hU]; exact hl) fun i kk u v e1 e2 => ?_
  · rw [keys b2]
    exact List.Pairwise.map _ (fun a b h z => h (Sum.inr.inj z)) hnd
  · unfold vK at e1 e2
    rw [List.getElem?_map] at e1 e2
    obtain ⟨x, hx, hxe⟩ := Option.map_eq_some_iff.mp e1
    obtain ⟨y, hy, hye⟩ := Option.map_eq_some_iff.mp e2
    obtain ⟨rfl, rfl⟩ := Prod.mk.inj hxe
    obtain ⟨_, rfl⟩ := Prod.mk.inj hye
    have g1 : g[i]? = some (x.1, x.2.2) := by
      rw [← a2]
      unfold vW
      rw [List.getElem?_map, hx]
      rfl
    have g2 : g[i]? = some (y.1, y.2.2) := by
      rw [← b2]
      unfold vW
      rw [List.getElem?_map, hy]
      rfl
    rw [g1] at g2
    have e := (Prod.mk.inj (Option.some.inj g2)).2
    have hx3 := a3 x (List.mem_of_getElem? hx)
    have hy3 := b3 y (List.mem_of_getElem? hy)
    rw [← e] at hy3
    exact .row hn hx3.2 hx3.1 hy3.1
structure VwOk (n : Nat) (f : Vw) (ys : List Str) : Prop where
  n1 : 1 ≤ n
  n2 : n ≤ 2400
  few : f.length < 64
  nd : (f.map (·.1)).Nodup
  nm : ∀ e ∈ f, e.1.length ≤ 1000
  isP : ∀ t, IsP n ((wGet f t).getD (alone n))
  pm : ys.Perm (f.map (·.1))
  so : sortedS ys = true
theorem VwOk.fewV {n : Nat} {f : Vw} {ys : List Str} (h : VwOk n f ys) : fewV n (seenV n f ys) := seenV_few (by have := h.n2; omega) h.few h.pm h.nm h.isP
theorem VwOk.one {n : Nat} {f : Vw} {ys zs : List Str} (h : VwOk n f ys) (p : zs.Perm (f.map (·.1))) (s : sortedS zs = true) : zs = ys := sortedS_one (p.trans h.pm.symm) s h.so
def spWorldSo (CW : Addr) : Sp := fun vs H Q _ => ∃ (v : V) (l : Addr) (n : Nat) (f : Vw) (ys : List Str), vs = [v, .int (n : Int), .ref l] ∧ WorldAt CW H v n (seenV n f ys) ∧ VwAt H l n f ∧ VwOk n f ys ∧ ∀ H', Ex H H' → Q (.bl true) H'
section
variable {P : Program} {w : World} {K : PySem.W.Frag} {mg : Str → Option Value} {base : Heap} {AA : Adr}
theorem ok_law_world_so (T : Txt K mg AA) : Pr P w K mg base "_law_world_so" s_law_world_so p_law_world_so 14 (spWorldSo AA.World) := by
  refine pr_mk T.f_law_world_so sc_law_world_so (fun vs H Q E h => ?_) (fun f cdv A outer s H vs Q E hr h => ?_)
  · obtain ⟨v, l, n, f, ys, rfl, _⟩ := h
    rfl
  · obtain ⟨v, l, n, f, ys, rfl, ⟨p, dx, D0, rfl, hp, hV0⟩, hV, ok, q⟩ := h
    refine ⟨_, (pss_cons (ps_set (i := 3) sc_law_world_so.nd rfl (.inl rfl) (pcall (ok_law_seen T) hr (pa_cons (pv 1) (pa_cons (pv 2) pa_nil))))
      (pss_cons (ps_set (i := 4) sc_law_world_so.nd rfl (.inl rfl) (pcall (ok_law_chapter T) hr (pa_cons (pv 1) (pa_cons (pv 2) pa_nil))))
      (pss_cons (ps_set (i := 5) sc_law_world_so.nd rfl (.inl rfl) (pe_lst (pa_cons (pe_fldK (K := K) rfl (pv 0) rfl) (pa_cons (pe_callB (call_lenOwn (ok_World___len T) hr) (by rfl) T.n_len PySem.boot_len (pa_cons (pv 0) pa_nil)) (pa_cons (pmeth0 T.c_World (ok_World_eyes T) hr (pv 0)) (pa_cons (pmeth0 T.c_World (ok_World_partings T) hr (pv 0)) (pa_cons (pmeth0 T.c_World (ok_World_text T) hr (pv 0)) (pa_cons (pe_callTy (call_strOwn (ok_World___str T) hr) (by rfl) T.n_str PyProof.Rows.boot_str (pa_cons (pv 0) pa_nil)) (pa_cons (pe_callB (call_reprOwn (ok_World___repr T) hr) (by rfl) T.n_repr PyProof.Rows.boot_repr (pa_cons (pv 0) pa_nil)) pa_nil)))))))))
      (pss_one (ps_ret (pcall (ok_law_sd T 12) hr (pa_cons (pv 5) (pa_cons (pe_lst (pa_cons (pv 1) (pa_cons (pv 1) (pa_cons (pe_callTy (call_list_dK rfl) (by rfl) T.n_list PyProof.Rows.boot_list (pa_cons (pv 3) pa_nil)) (pa_cons (pv 3) (pa_cons (pv 4) (pa_cons (pv 4) (pa_cons (pe_op op_add_str (pe_op op_add_str pe_str (pe_callTy call_str_int (by rfl) T.n_str PyProof.Rows.boot_str (pa_cons (pv 1) pa_nil))) pe_str) pa_nil)))))))) pa_nil)))))))), ?_⟩
    have hn : n ≤ 4096 := by have := ok.n2; omega
    refine ⟨_, rfl, _, rfl, n, l, f, rfl, hn, hV, ok.few, ok.nd, fun D H1 y1 e1 hD hy1 hs1 hV1 => ?_⟩
    rw [ok.one hy1 hs1] at hV1
    refine ⟨_, rfl, _, rfl, n, l, f, rfl, hn, hV.mono e1, ok.few, ok.nd, ok.nm, fun H2 y2 e2 hy2 hs2 => ?_⟩
    rw [ok.one hy2 hs2]
    have hW0 : ∀ H', Ex H H' → WorldAt AA.World H' (.ref p) n (seenV n f ys) := fun H' e => ⟨p, dx, D0, rfl, e _ _ hp, hV0.mono e⟩
    have hfew := ok.fewV
    have hgn := seenV_nodup (n := n) (f := f) (ok.pm.nodup_iff.mpr ok.nd)
    generalize seenV n f ys = g at hW0 hfew hV1 hgn
    have x2 := e1.trans e2
    refine ⟨_, rfl, p, AA.World, dx, _, _, rfl, x2 _ _ hp, T.c_World, T.a_World_many, wf_many, _, rfl, p, dx, _, rfl, x2 _ _ hp, .ref p, n, g, rfl, hn, hW0 _ x2, n, rfl, by omega, ?_⟩
    refine ⟨_, rfl, p, dx, _, rfl, x2 _ _ hp, wf_no (by decide +kernel) (by decide +kernel), .ref p, n, g, rfl, hW0 _ x2, fun L3 H3 e3 hL3 hL3' => ?_⟩
    have x3 := x2.trans e3
    refine ⟨_, rfl, p, dx, _, rfl, x3 _ _ hp, wf_no (by decide +kernel) (by decide +kernel), .ref p, n, g, rfl, hW0 _ x3, fun D4 H4 e4 hD4 hV4 => ?_⟩
    have e4' := e4
    have x4 := x3.trans e4
    refine ⟨_, rfl, p, dx, _, rfl, x4 _ _ hp, wf_no (by decide +kernel) (by decide +kernel), .ref p, n, g, rfl, hfew, hW0 _ x4, fun H5 e5 => ?_⟩
    have x5 := x4.trans e5
    refine ⟨_, rfl, p, dx, _, rfl, x5 _ _ hp, .ref p, n, g, rfl, hfew, hW0 _ x5, fun H6 e6 => ⟨_, rfl, ?_⟩⟩
    have x6 := x5.trans e6
    refine ⟨_, rfl, p, dx, _, rfl, x6 _ _ hp, .ref p, n, g, rfl, hn, hW0 _ x6, _, rfl, by show 7 ≤ sizeLine; decide, fun U hU => ?_⟩
    have e7 := Ex.new (o := .lst [.int (n : Int), .int (n : Int), .ref L3, .ref D4, .str (chapS n g), .str (chapS n g), .str (reprS n)]) hU
    have hU' := upd_same (H := H6) (a := U) (o := HO.lst [.int (n : Int), .int (n : Int), .ref L3, .ref D4, .str (chapS n g), .str (chapS n g), .str (reprS n)])
    have hX : Ex H4 H6 := e5.trans e6
    generalize chapS n g = ch at hU' e7 ⊢
    generalize upd H6 U _ = H7 at hU' e7 ⊢
    obtain ⟨W, w1, w2, w3⟩ := hV1
    have x17 : Ex H1 H7 := ((((e2.trans e3).trans e4).trans e5).trans e6).trans e7
    refine ⟨_, rfl, _, rfl, _, rfl, _, rfl, D, vK W, rfl, x17 _ _ w1, fun L8 hL8 => ?_⟩
    have e4 : (Str.ofString "World(").length = 6 := by decide +kernel
    have e2 : (Str.ofString " cases)").length = 7 := by decide +kernel
    have hl := natS_len hn
    have big : 16777216 ≤ sizeLine := by rw [sizeLine_eq]; decide
    have hNL : ((vK W).map fun kv => kV kv.1) = (g.map (·.1)).map V.str := by
      rw [← w2]
      unfold vK vW
      rw [List.map_map, List.map_map, List.map_map]
      rfl
    rw [hNL]
    have e8 := Ex.new (o := .lst ((g.map (·.1)).map V.str)) hL8
    have hL8' := upd_same (H := H7) (a := L8) (o := HO.lst ((g.map (·.1)).map V.str))
    generalize upd H7 L8 (.lst ((g.map (·.1)).map V.str)) = H8 at e8 hL8' ⊢
    refine ⟨_, rfl, _, rfl, _, rfl, _, rfl, n, rfl, natS_log hn, Str.ofString "World(", natS n, rfl, rfl, ?_, Str.ofString "World(" ++ natS n, Str.ofString " cases)", rfl, rfl, ?_, by show 7 ≤ sizeLine; decide, fun U2 hU2 => ?_⟩
    · rw [e4]
      omega
    · rw [Str.length_append, e4, e2]
      omega
    have hrp : Str.ofString "World(" ++ natS n ++ Str.ofString " cases)" = reprS n := by
      unfold reprS
      rfl
    rw [hrp]
    have e9 := Ex.new (o := .lst [.int (n : Int), .int (n : Int), .ref L8, .ref D, .str ch, .str ch, .str (reprS n)]) hU2
    have hU2' := upd_same (H := H8) (a := U2) (o := HO.lst [.int (n : Int), .int (n : Int), .ref L8, .ref D, .str ch, .str ch, .str (reprS n)])
    generalize upd H8 U2 _ = H9 at e9 hU2' ⊢
    have hlists : Sd H9 11 (.ref L3) (.ref L8) := by
      refine .lst (e9 _ _ (e8 _ _ (e7 _ _ (hX _ _ (e4' _ _ hL3'))))) (e9 _ _ hL8') rfl ?_ fun i u v h1 h2 => ?_
      · rw [List.length_map, List.length_map]
        have := hfew.2.1
        omega
      · rw [h1] at h2
        cases h2
        rw [List.getElem?_map] at h1
        obtain ⟨z, _, rfl⟩ := Option.map_eq_some_iff.mp h1
        exact .str'
    have hV9 : VwAt H9 D n g := ⟨W, e9 _ _ (e8 _ _ (x17 _ _ w1)), w2, fun e he => ⟨e9 _ _ (e8 _ _ (x17 _ _ (w3 e he).1)), (w3 e he).2⟩⟩
    have hdicts : Sd H9 11 (.ref D4) (.ref D) := .vw hn (by have := hfew.2.1; omega) hgn (hV4.mono (((hX.trans e7).trans e8).trans e9)) hV9
    refine ⟨.ref U, .ref U2, rfl, ?_, fun H10 e10 => q _ ((((x6.trans e7).trans e8).trans e9).trans e10)⟩
    exact Sds.lst (.cons .int' (.cons .int' (.cons hlists (.cons hdicts (.cons .str' (.cons .str' (.cons .str' .nil))))))) (e9 _ _ (e8 _ _ hU')) hU2' (by show 7 ≤ 90000; decide)
end
end Eyes

set_option Elab.async false
set_option linter.all false
set_option maxRecDepth 100000
set_option maxHeartbeats 4000000
/-! Worlds without ties; worlds of given partings. -/
namespace Eyes
open PySem PySem.Spec PyProof.Rows L2 Evl TL
theorem wfl_put {n : Nat} {D D2 : Addr} : putF "_partings" (.ref D2) (wfl n D) = wfl n D2 := by
  unfold wfl
  rfl
def spWith (C : Addr) : Sp := fun vs H Q _ => ∃ (n : Nat) (l : Addr) (f : Vw), vs = [.int (n : Int), .ref l] ∧ 1 ≤ n ∧ n ≤ 2400 ∧ VwAt H l n f ∧ f.length < 64 ∧ (f.map (·.1)).Nodup ∧
  ∀ v H' ys, Ex H H' → ys.Perm (f.map (·.1)) → sortedS ys = true → WorldAt C H' v n (seenV n f ys) → Q v H'
section
variable {P : Program} {w : World} {K : PySem.W.Frag} {mg : Str → Option Value} {base : Heap} {AA : Adr}
theorem ok_World___init0 (T : Txt K mg AA) : PrI0 P w K mg base AA.World p_World___init 5 (spInitW K AA.World) := pri0_mk T.j_World sc_World___init (fun vs H Q E h => world_len h) fun f cdv A outer s H vs Q E hr h => world_body T f cdv A outer s H vs Q E hr h
theorem ok_world_with (T : Txt K mg AA) : Pr P w K mg base "world_with" s_world_with p_world_with 7 (spWith AA.World) := by
  refine pr_mk T.f_world_with sc_world_with (fun vs H Q E h => ?_) (fun f cdv A outer s H vs Q E hr h => ?_)
  · obtain ⟨n, l, f, rfl, _⟩ := h
    rfl
  · obtain ⟨n, l, f, rfl, h1, h2, hV, hfl, hnd, q⟩ := h
    refine ⟨_, (pss_cons (ps_set (i := 2) sc_world_with.nd rfl (.inl rfl) (pmake0 (K := K) rfl T.m_World (ok_World___init0 T) hr (pa_cons (pv 0) pa_nil)))
      (pss_cons (ps_fld (pv 2) (pcall (ok_counting T) hr (pa_cons (pv 0) (pa_cons (pv 1) pa_nil))) rfl)
      (pss_one (ps_ret (pv 2))))), ?_⟩
    intro d hd
    refine ⟨_, rfl, fun x dx hx hdx hxd => ?_⟩
    have eX : Ex H (upd (upd H dx (.own x)) x (.ins AA.World dx [])) := (Ex.new hdx).trans (Ex.new ((upd_ne (Ne.symm hxd)).trans hx))
    refine ⟨x, dx, d, n, [], [], H, rfl, hx, eX, upd_same, .inr (hd H), ⟨rfl, fun i u k h => by cases h⟩, by decide, fun k hk => (nomatch hk), h1, h2, fun H1 ys e1 hys hso hW => ⟨rfl, ?_⟩⟩
    obtain ⟨p, dx1, D1, hpx, hp, hV1⟩ := hW
    cases hpx
    refine ⟨_, rfl, _, rfl, n, l, f, rfl, by omega, hV.mono e1, hfl, hnd, fun D2 H2 ys2 e2 hD2 hys2 hso2 hV2 => ?_⟩
    have hx2 := e2 _ _ hp
    refine ⟨_, rfl, x, AA.World, dx1, _, rfl, hx2, T.c_World, T.a_World_partings, by show 2 < 1000; decide, ?_⟩
    rw [wfl_put]
    obtain ⟨W, g1, g2, g3⟩ := hV2
    have hne : D2 ≠ x := fun z => by
      rw [z, hx2] at g1
      cases g1
    refine ⟨_, rfl, q (.ref x) _ ys2 ((e1.trans e2).mut hx) hys2 hso2 ⟨x, dx1, D2, rfl, upd_same, W, (upd_ne hne).trans g1, g2, fun e he => ⟨?_, (g3 e he).2⟩⟩⟩
    have g := (g3 e he).1
    rw [upd_ne fun z => by rw [z, hx2] at g; cases g]
    exact g
end
end Eyes

set_option Elab.async false
set_option linter.all false
set_option maxRecDepth 100000
set_option maxHeartbeats 4000000
/-! == of two dicts whose values are data. -/
namespace Eyes
open PySem PySem.Spec PyProof.Rows L2
def FDat (K : PySem.W.Frag) (H : Hp) (x y : V) : Prop := ∃ d e, Dp K H x d ∧ Dp K H y e ∧ SeqAt.shaped d = true ∧ SeqAt.shaped e = true ∧ PyData.eqv d e = true
def rEqDD (K : PySem.W.Frag) : R2 := fun x y H Q => ∃ a b ks ls, x = .ref a ∧ y = .ref b ∧ H a = some (.dK ks) ∧ H b = some (.dK ls) ∧ ks.length = ls.length ∧ (∀ p ∈ ks, ∃ u, valV ls p.1 = some u ∧ FDat K H p.2 u) ∧ Q (.bl true) H
theorem op_eqDD {X : Cx} (hu : X.A.units + 65 < cLine) : OpR X (compareOp .Eq) (rEqDD X.K) := by
  intro pins s σ H x y v u Q I rx ry h
  obtain ⟨a, b, ks, ls, rfl, rfl, ha, hb, hl, hp, q⟩ := h
  refine eqR_run I (A := X.A) (F := FDat X.K H) (by omega) (fun x y v u h rx ry => ?_) (.inr ⟨a, b, ks, ls, rfl, rfl, ha, hb, hl, hp⟩) rx ry _ _ ⟨.bl true, H, I, rfl, q⟩
  obtain ⟨d, e, hd, he, sd, se, heq⟩ := h
  obtain ⟨as, r1⟩ := Dp.reads I d x v hd rx
  obtain ⟨bs, r2⟩ := Dp.reads I e y u he ry
  have := (SeqAt.eqAt_reads d e X.A.in1 s v u as bs r1 r2 (SeqAt.canLay_of_shaped sd) (SeqAt.canLay_of_shaped se) (SeqAt.room_of_shaped sd (by show X.A.units + 1 + 64 < cLine; omega))).eqP (prog := X.prog) (w := X.w)
  rw [heq] at this
  exact this
theorem op_eqDDK {X : Cx} {K : PySem.W.Frag} (hK : X.K = K) (hu : X.A.units + 65 < cLine) : OpR X (compareOp .Eq) (rEqDD K) := hK ▸ op_eqDD hu
end Eyes

set_option Elab.async false
set_option linter.all false
set_option maxRecDepth 100000
set_option maxHeartbeats 4000000
/-! name = {k: v for ..}, the name a local. -/
namespace Eyes
open PySem PySem.Spec PyProof.Rows L2
section
variable {X : Cx}
end
end Eyes

set_option Elab.async false
set_option linter.all false
set_option maxRecDepth 100000
set_option maxHeartbeats 4000000
/-! Worlds: == and +. -/
namespace Eyes
open PySem PySem.Spec PyProof.Rows L2 Evl TL
def gP (n : Nat) (f : Vw) (t : Str) : List Nat := (wGet f t).getD (alone n)
def addV (n m : Nat) (f g : Vw) (ts : List Str) : Vw := ts.foldl (fun a t => wPut a t (besN (gP n f t) (gP m g t))) []
theorem wPut_nodup {f : Vw} {t : Str} {p : List Nat} (h : (f.map (·.1)).Nodup) : ((wPut f t p).map (·.1)).Nodup := by
  rw [wPut_names]
  split
  · exact h
  · rename_i z
    refine List.nodup_append.mpr ⟨h, by simp, fun x hx y hy e => ?_⟩
    rw [List.mem_singleton.mp hy] at e
    rw [e] at hx
    exact z hx
def spEqW (C : Addr) : Sp := fun vs H Q _ => ∃ (v u : V) (n : Nat) (f : Vw), vs = [v, u] ∧ n ≤ 4096 ∧ WorldAt C H v n f ∧ WorldAt C H u n f ∧ (f.map (·.1)).Nodup ∧ Q (.bl true) H
def spAddW (C : Addr) : Sp := fun vs H Q _ => ∃ (v u : V) (n m : Nat) (f g : Vw), vs = [v, u] ∧ 1 ≤ n ∧ 1 ≤ m ∧ n + m ≤ 2400 ∧ WorldAt C H v n f ∧ WorldAt C H u m g ∧ f.length + g.length < 64 ∧
  ∀ x H' ys, Ex H H' → ys.Perm ((addV n m f g (f.map (·.1) ++ g.map (·.1))).map (·.1)) → sortedS ys = true → WorldAt C H' x (n + m) (seenV (n + m) (addV n m f g (f.map (·.1) ++ g.map (·.1))) ys) → Q x H'
section
variable {P : Program} {w : World} {K : PySem.W.Frag} {mg : Str → Option Value} {base : Heap} {AA : Adr}
theorem ok_World___eq (T : Txt K mg AA) : PrM P w K mg base AA.World "__eq__" p_World___eq 1 (spEqW AA.World) := by
  refine prm_mk T.t_World___eq sc_World___eq (fun vs H Q E h => ?_) (fun f cdv A outer s H vs Q E hr h => ?_)
  · obtain ⟨v, u, n, f, rfl, _⟩ := h
    rfl
  · obtain ⟨v, u, n, f, rfl, hn, ⟨p, dx, D, rfl, hp, W, a1, a2, a3⟩, ⟨p2, dx2, D2, rfl, hp2, U, b1, b2, b3⟩, hnd, q⟩ := h
    refine ⟨_, (pss_one (ps_ret (pe_and (pe_callB (call_isiK (K := K) rfl) (by rfl) T.n_isinstance PyProof.Rows.boot_isinstance (pa_cons (pv 1) (pa_cons (pe_glob (v := .ref AA.World) (by rfl) T.m_World rfl) pa_nil))) (pe_and (pe_cmpR op_eq (pe_fldK (K := K) rfl (pv 0) rfl) (pe_fldK (K := K) rfl (pv 1) rfl) (nomark _)) (pe_one (pe_cmpR (op_eqDDK (K := K) rfl (u65 hr)) (pe_fldK (K := K) rfl (pv 0) rfl) (pe_fldK (K := K) rfl (pv 1) rfl) (nomark _))))))), ?_⟩
    have keys : ∀ {W : List VRow}, vW W = f → (vK W).map (·.1) = (f.map (·.1)).map Sum.inr := fun {W} h => by
      rw [← h]
      unfold vK vW
      rw [List.map_map, List.map_map, List.map_map]
      rfl
    have hl : (vK W).length = (vK U).length := by
      have h := congrArg List.length ((keys a2).trans (keys b2).symm)
      rw [List.length_map, List.length_map] at h
      exact h
    have hUn : ((vK U).map (·.1)).Nodup := by
      rw [keys b2]
      exact List.Pairwise.map _ (fun a b h z => h (Sum.inr.inj z)) hnd
    refine ⟨_, rfl, _, _, _, _, _, rfl, .own _, .base (.ins hp2 T.c_World T.y_World.ty1 T.y_World.ty2 T.y_World.ty3 T.y_World.ty4), kit_self, ?_⟩
    refine ⟨_, rfl, iteT ?_⟩
    refine ⟨_, rfl, p, AA.World, dx, _, _, rfl, hp, T.c_World, T.a_World_many, wf_many, _, rfl, p2, AA.World, dx2, _, _, rfl, hp2, T.c_World, T.a_World_many, wf_many, rfl, ?_⟩
    refine ⟨_, rfl, iteDT rfl ?_⟩
    refine ⟨_, rfl, p, AA.World, dx, _, _, rfl, hp, T.c_World, T.a_World_partings, wf_part, _, rfl, p2, AA.World, dx2, _, _, rfl, hp2, T.c_World, T.a_World_partings, wf_part, D, D2, vK W, vK U, rfl, rfl, a1, b1, hl, fun kv hkv => ?_, q⟩
    obtain ⟨i, hi⟩ := List.getElem?_of_mem hkv
    unfold vK at hi
    rw [List.getElem?_map] at hi
    obtain ⟨x, hx, rfl⟩ := Option.map_eq_some_iff.mp hi
    have hfx : f[i]? = some (x.1, x.2.2) := by
      rw [← a2]
      unfold vW
      rw [List.getElem?_map, hx]
      rfl
    rw [← b2] at hfx
    unfold vW at hfx
    rw [List.getElem?_map] at hfx
    obtain ⟨y, hy, hye⟩ := Option.map_eq_some_iff.mp hfx
    obtain ⟨y1, y2⟩ := Prod.mk.inj hye
    have hyk : (vK U)[i]? = some (.inr x.1, .ref y.2.1) := by
      unfold vK
      rw [List.getElem?_map, hy, ← y1]
      rfl
    refine ⟨.ref y.2.1, valV_at hUn hyk, .tuple (ndats x.2.2), .tuple (ndats x.2.2), .tup (st_of (a3 x (List.mem_of_getElem? hx)).1) (dp_nats _), .tup (st_of ?_) (dp_nats _), shaped_tup _, shaped_tup _, by rw [eqv_tup]; exact decide_eq_true rfl⟩
    have := (b3 y (List.mem_of_getElem? hy)).1
    rw [y2] at this
    exact this
end
end Eyes

set_option Elab.async false
set_option linter.all false
set_option maxRecDepth 100000
set_option maxHeartbeats 4000000
/-! The mathematics of worlds: what is counted is told by the partings. -/
namespace Eyes
open PySem PySem.Spec PyProof.Rows L2 Evl TL
/-! ### what is counted -/
theorem wGet_put {f : Vw} {t u : Str} {p : List Nat} : wGet (wPut f t p) u = if u = t then some p else wGet f u := by
  unfold wPut
  split
  · rename_i h
    by_cases e : u = t
    · subst e
      rw [if_pos rfl]
      induction f with
      | nil => cases h
      | cons x f ih =>
        unfold wGet at ih ⊢
        rw [List.map_cons, List.find?_cons]
        by_cases hx : x.1 = u
        · rw [if_pos hx, decide_eq_true hx]
          rfl
        · rw [if_neg hx, decide_eq_false hx]
          rw [List.any_cons, decide_eq_false hx, Bool.false_or] at h
          exact ih h
    · rw [if_neg e]
      clear h
      induction f with
      | nil => rfl
      | cons x f ih =>
        unfold wGet at ih ⊢
        rw [List.map_cons, List.find?_cons, List.find?_cons]
        by_cases hx : x.1 = u
        · have hxt : x.1 ≠ t := fun z => e (hx.symm.trans z)
          rw [if_neg hxt, decide_eq_true hx]
        · have hd : decide ((if x.1 = t then (x.1, p) else x).1 = u) = false := by
            refine decide_eq_false ?_
            split <;> exact hx
          rw [hd, decide_eq_false hx]
          exact ih
  · rename_i h
    have hn : t ∉ f.map (·.1) := fun z => by
      obtain ⟨x, hx, rfl⟩ := List.mem_map.mp z
      exact h (List.any_eq_true.mpr ⟨x, hx, decide_eq_true rfl⟩)
    unfold wGet
    rw [List.find?_append]
    by_cases e : u = t
    · subst e
      have hw := wGet_none hn
      unfold wGet at hw
      rw [Option.map_eq_none_iff] at hw
      rw [if_pos rfl, hw, Option.none_or, List.find?_cons, decide_eq_true rfl]
      rfl
    · rw [if_neg e, List.find?_cons, decide_eq_false fun z => e z.symm]
      show Option.map _ (Option.or _ none) = _
      rw [Option.or_none]
theorem seen1_gP {n : Nat} {f : Vw} {t : Str} : seen1 n f t = if gP n f t = alone n then none else some (t, gP n f t) := by
  unfold seen1 gP
  cases wGet f t with
  | none =>
    show none = if alone n = alone n then none else some (t, alone n)
    rw [if_pos rfl]
  | some p => rfl
theorem seenV_filter {n : Nat} {f : Vw} : ∀ ys : List Str, seenV n f ys = (ys.filter fun t => decide (gP n f t ≠ alone n)).map fun t => (t, gP n f t)
  | [] => rfl
  | y :: ys => by
    have ih := seenV_filter (n := n) (f := f) ys
    unfold seenV at ih ⊢
    by_cases h : gP n f y = alone n
    · rw [List.filterMap_cons_none (by rw [seen1_gP, if_pos h]), List.filter_cons_of_neg (by simp [h]), ih]
    · rw [List.filterMap_cons_some (by rw [seen1_gP, if_neg h]), List.filter_cons_of_pos (by simp [h]), ih]
      rfl
theorem srt_ext : ∀ {l m : List Str}, l.Nodup → m.Nodup → (∀ t, t ∈ l ↔ t ∈ m) → (l.Pairwise fun a b => leC a.cps.toList b.cps.toList) → (m.Pairwise fun a b => leC a.cps.toList b.cps.toList) → l = m
  | [], [], _, _, _, _, _ => rfl
  | [], y :: m, _, _, h, _, _ => nomatch (h y).mpr List.mem_cons_self
  | x :: l, [], _, _, h, _, _ => nomatch (h x).mp List.mem_cons_self
  | x :: l, y :: m, hl, hm, h, h1, h2 => by
    have hl := List.nodup_cons.mp hl
    have hm := List.nodup_cons.mp hm
    have e : x = y := by
      rcases List.mem_cons.mp ((h x).mp List.mem_cons_self) with e | hx
      · exact e
      · rcases List.mem_cons.mp ((h y).mpr List.mem_cons_self) with e | hy
        · exact e.symm
        · exact str_cps (ltC_total _ _ (List.rel_of_pairwise_cons h2 hx) (List.rel_of_pairwise_cons h1 hy))
    subst e
    refine congrArg (x :: ·) (srt_ext hl.2 hm.2 (fun t => ⟨fun ht => ?_, fun ht => ?_⟩) (List.pairwise_cons.mp h1).2 (List.pairwise_cons.mp h2).2)
    · rcases List.mem_cons.mp ((h t).mp (List.mem_cons_of_mem _ ht)) with e | z
      · exact absurd (e ▸ ht) hl.1
      · exact z
    · rcases List.mem_cons.mp ((h t).mpr (List.mem_cons_of_mem _ ht)) with e | z
      · exact absurd (e ▸ ht) hm.1
      · exact z
theorem seen_canon {n : Nat} {f g : Vw} {ys zs : List Str} (h : ∀ t, gP n f t = gP n g t) (hy : ys.Perm (f.map (·.1))) (hz : zs.Perm (g.map (·.1))) (fn : (f.map (·.1)).Nodup) (gn : (g.map (·.1)).Nodup) (sy : sortedS ys = true) (sz : sortedS zs = true) : seenV n f ys = seenV n g zs := by
  rw [seenV_filter, seenV_filter]
  have mem : ∀ {f : Vw} {ys : List Str}, ys.Perm (f.map (·.1)) → ∀ t, t ∈ (ys.filter fun t => decide (gP n f t ≠ alone n)) ↔ gP n f t ≠ alone n := fun {f ys} hp t => by
    rw [List.mem_filter, decide_eq_true_eq]
    refine ⟨fun z => z.2, fun z => ⟨hp.mem_iff.mpr ?_, z⟩⟩
    refine Decidable.byContradiction fun hn => z ?_
    unfold gP
    rw [wGet_none hn]
    rfl
  have e : (ys.filter fun t => decide (gP n f t ≠ alone n)) = zs.filter fun t => decide (gP n g t ≠ alone n) := srt_ext ((hy.nodup_iff.mpr fn).filter _) ((hz.nodup_iff.mpr gn).filter _) (fun t => by rw [mem hy, mem hz, h t]) ((sortedS_pw sy).filter _) ((sortedS_pw sz).filter _)
  rw [e]
  exact List.map_congr_left fun t _ => by rw [h t]
theorem seen_gP {n : Nat} {f : Vw} {ys : List Str} (h : ys.Perm (f.map (·.1))) (t : Str) : gP n (seenV n f ys) t = gP n f t := seen_same h t
theorem seenV_sub {n : Nat} {f : Vw} {ys : List Str} {t : Str} (hp : ys.Perm (f.map (·.1))) (h : t ∈ (seenV n f ys).map (·.1)) : t ∈ f.map (·.1) := by
  rw [seenV_filter, List.map_map] at h
  obtain ⟨x, hx, rfl⟩ := List.mem_map.mp h
  exact hp.mem_iff.mp (List.mem_filter.mp hx).1
end Eyes

set_option Elab.async false
set_option linter.all false
set_option maxRecDepth 100000
set_option maxHeartbeats 4000000
/-! Putting in, mirroring, exchanging: plain Lean. -/
namespace Eyes
open PySem PySem.Spec PyProof.Rows L2 Evl TL
mutual
def mapC (f : Bool) (r : Str → Str) : Ci → Ci
  | .eye n => .eye (r n)
  | .node k ps => .node (k ^^ f) (mapsC f r ps)
def mapsC (f : Bool) (r : Str → Str) : List Ci → List Ci
  | [] => []
  | c :: s => mapC f r c :: mapsC f r s
end
structure Sw (r : Str → Str) : Prop where
  inv : ∀ n, r (r n) = n
  nm : ∀ n, nm n → nm (r n)
theorem Sw.id : Sw (fun n => n) := ⟨fun _ => rfl, fun _ h => h⟩
def swp2 (x y n : Str) : Str := if n = x then y else if n = y then x else n
theorem Sw.two {x y : Str} (hx : Eyes.nm x) (hy : Eyes.nm y) : Sw (swp2 x y) := by
  refine ⟨fun n => ?_, fun n h => ?_⟩
  · unfold swp2
    by_cases h1 : n = x
    · rw [if_pos h1]
      by_cases h2 : y = x
      · rw [if_pos h2, h2, h1]
      · rw [if_neg h2, if_pos rfl, h1]
    · rw [if_neg h1]
      by_cases h2 : n = y
      · rw [if_pos h2, if_pos rfl, h2]
      · rw [if_neg h2, if_neg h1, if_neg h2]
  · unfold swp2
    by_cases h1 : n = x
    · rw [if_pos h1]; exact hy
    · rw [if_neg h1]
      by_cases h2 : n = y
      · rw [if_pos h2]; exact hx
      · rw [if_neg h2]; exact h
section
variable {f : Bool} {r : Str → Str}
end
abbrev flip (c : Ci) : Ci := mapC true (fun n => n) c
/-! ### which bound is passed -/
def over (c : Ci) : Option (Str × Nat) := if 60 < c.size then some ("eyes", 60) else if 20 < c.depth then some ("depth", 20) else none
theorem over_none {c : Ci} : over c = none ↔ c.size ≤ 60 ∧ c.depth ≤ 20 := by
  unfold over
  by_cases h : 60 < c.size
  · rw [if_pos h]
    exact ⟨fun z => (nomatch z), fun z => absurd z.1 (by omega)⟩
  · rw [if_neg h]
    by_cases g : 20 < c.depth
    · rw [if_pos g]
      exact ⟨fun z => (nomatch z), fun z => absurd z.2 (by omega)⟩
    · rw [if_neg g]
      exact ⟨fun _ => ⟨by omega, by omega⟩, fun _ => rfl⟩
/-! ### putting in -/
inductive Rs (α : Type) where
  | no (z : Str × Nat)
  | yes (a : α)
def Rs.map {α β : Type} (h : α → β) : Rs α → Rs β
  | .no z => .no z
  | .yes a => .yes (h a)
def Rs.bind {α β : Type} : Rs α → (α → Rs β) → Rs β
  | .no z, _ => .no z
  | .yes a, h => h a
def chk (c : Ci) : Rs Ci := match over c with
  | some z => .no z
  | none => .yes c
mutual
def putC (g : Str → Ci) : Ci → Rs Ci
  | .eye n => .yes (g n)
  | .node k ps => (putsC g ps).bind fun cs => chk (mkC k cs)
def putsC (g : Str → Ci) : List Ci → Rs (List Ci)
  | [] => .yes []
  | c :: s => (putC g c).bind fun d => (putsC g s).bind fun ds => .yes (d :: ds)
end
def Ci.nice (c : Ci) : Prop := c.norm ∧ c.size ≤ 60 ∧ c.depth ≤ 20
theorem Ci.nice.fine {c : Ci} (h : c.nice) : c.fine := ⟨norm_of h.1, h.2.1⟩
theorem Ci.nice.over {c : Ci} (h : c.nice) : over c = none := over_none.mpr h.2
section
variable {g : Str → Ci}
end
/-! ### the circles in a circle -/
mutual
def subs : Ci → List Ci
  | .eye n => [.eye n]
  | .node k ps => .node k ps :: subsL ps
def subsL : List Ci → List Ci
  | [] => []
  | c :: s => subs c ++ subsL s
end
def cin (c : Ci) : List Ci := dd [] (subs c)
def cinL (ps : List Ci) : List Ci := (ps.map cin).flatten
end Eyes

set_option Elab.async false
set_option linter.all false
set_option maxRecDepth 100000
set_option maxHeartbeats 4000000
namespace Eyes
open PySem PySem.Spec PyProof.Rows L2 Evl TL
theorem depths_bdW {n : Nat} : ∀ {ps : List Ci}, (∀ c ∈ ps, c.depth ≤ n) → depths ps ≤ n
  | [], _ => Nat.zero_le _
  | c :: r, h => by
    have h1 := h c List.mem_cons_self
    have h2 := depths_bdW (ps := r) fun d hd => h d (List.mem_cons_of_mem _ hd)
    show max c.depth (depths r) ≤ n
    omega
theorem mk_sizeW {k : Bool} {cs : List Ci} (h : ∀ c ∈ cs, c.norm) : (mkC k cs).size ≤ sizes cs := by
  rw [mkC_sz, ← sizes_flat (k := k) cs]
  exact sub_sizes (pts_nodup h) fun y hy => (pts_mem h).mp hy
theorem flat_dpW {k : Bool} {n : Nat} {cs : List Ci} (h : ∀ c ∈ cs, c.depth ≤ n) : ∀ d ∈ flat k cs, d.depth ≤ n := fun d hd => by
  obtain ⟨c, hc, hd⟩ := flat_mem.mp hd
  have h1 := h c hc
  by_cases g : c.isK k = true
  · rw [if_pos g] at hd
    cases c with
    | eye t => cases g
    | node j ps =>
      have h2 := depths_le (show d ∈ ps from hd)
      have h1 : 1 + depths ps ≤ n := h1
      omega
  · rw [if_neg g] at hd
    rw [List.mem_singleton.mp hd]
    exact h1
theorem mk_depthW {k : Bool} {n : Nat} {cs : List Ci} (hn : ∀ c ∈ cs, c.norm) (h : ∀ c ∈ cs, c.depth ≤ n) : (mkC k cs).depth ≤ n + 1 := by
  have h1 : ∀ d ∈ pts k cs, d.depth ≤ n := fun d hd => flat_dpW h d ((pts_mem hn).mp hd)
  by_cases g : (pts k cs).length = 1
  · obtain ⟨c, hc⟩ := List.length_eq_one_iff.mp g
    rw [mkC_one hc]
    have := h1 c (by rw [hc]; exact List.mem_cons_self)
    omega
  · rw [mkC_more g]
    have := depths_bdW h1
    show 1 + depths (pts k cs) ≤ n + 1
    omega
end Eyes

set_option Elab.async false
set_option linter.all false
set_option maxRecDepth 100000
set_option maxHeartbeats 4000000
/-! The mathematics of worlds: ties put to a parting, names exchanged, circles put in, more ties. -/
namespace Eyes
open PySem PySem.Spec PyProof.Rows L2 Evl TL
theorem gP_put {n : Nat} {f : Vw} {x t : Str} {p : List Nat} : gP n (wPut f x p) t = if t = x then p else gP n f t := by
  unfold gP
  rw [wGet_put]
  split <;> rfl
/-! ### a tie -/
section
variable {n : Nat} {p q r : List Nat}
end
/-! ### ties in any order -/
def inK (n : Nat) (k : Knot) : Prop := (1 ≤ k.2.1 ∧ k.2.1 ≤ n) ∧ 1 ≤ k.2.2 ∧ k.2.2 ≤ n
def prsK (ks : List Knot) (t : Str) : List (Nat × Nat) := (ks.filter fun k => decide (k.1 = t)).map (·.2)
theorem knots_gP {n : Nat} {t : Str} : ∀ (ks : List Knot) (f : Vw), gP n (ks.foldl (knotV n) f) t = mrgs (gP n f t) (prsK ks t)
  | [], _ => rfl
  | k :: ks, f => by
    rw [List.foldl_cons, knots_gP ks]
    have e : gP n (knotV n f k) t = if t = k.1 then mrg1 (gP n f t) k.2.1 k.2.2 else gP n f t := by
      unfold knotV
      rw [gP_put]
      split
      · rename_i h
        subst h
        rfl
      · rfl
    unfold prsK
    rw [e]
    by_cases h : k.1 = t
    · rw [if_pos h.symm, List.filter_cons_of_pos (by simp [h])]
      rfl
    · rw [if_neg fun z => h z.symm, List.filter_cons_of_neg (by simp [h])]
theorem knotsV_gP {n : Nat} {t : Str} {ks : List Knot} : gP n (knotsV n ks) t = mrgs (alone n) (prsK ks t) := knots_gP ks []
theorem prsK_in {n : Nat} {ks : List Knot} {t : Str} (h : ∀ k ∈ ks, inK n k) : ∀ xy ∈ prsK ks t, (1 ≤ xy.1 ∧ xy.1 ≤ n) ∧ 1 ≤ xy.2 ∧ xy.2 ≤ n := fun xy hx => by
  obtain ⟨k, hk, rfl⟩ := List.mem_map.mp hx
  exact h k (List.mem_filter.mp hk).1
/-! ### circles -/
section
variable {n : Nat} {f g : Vw}
end
section
variable {n : Nat} {f g : Vw}
end
/-! ### what is put in is not too large -/
end Eyes

set_option Elab.async false
set_option linter.all false
namespace Eyes
open PySem PySem.Spec PyProof.Rows L2
end Eyes

set_option Elab.async false
set_option linter.all false
set_option maxRecDepth 100000
set_option maxHeartbeats 4000000
/-! What goes over a list or a tuple: one reading for both. -/
namespace Eyes
open PySem PySem.Spec PyProof.Rows L2 Evl TL
theorem lt_var {K : PySem.W.Frag} {i : Nat} {σ : L2.St} {H : Hp} {a : Addr} {xs : List V} {R : It → Hp → Prop} (hv : σ[i]? = some (some (.ref a))) (ha : SqLT K H a xs)
    (h : ∀ (J : It) (GG : Hp → Prop), Walk J xs.length GG (YAt xs) → (∀ H', Ex H H' → GG H') → R J H) : iList K (tVar i) σ H R ∨ iTup K (tVar i) σ H R := by
  rcases ha with ha | ha
  · exact .inl ⟨.ref a, hv, a, rfl, ⟨xs, ha⟩, h _ _ walk_list fun H' e => ex_l e ha⟩
  · exact .inr ⟨.ref a, hv, a, rfl, ⟨xs, ha⟩, h _ _ walk_tup fun H' e => ex_t e ha⟩
end Eyes

set_option Elab.async false
set_option linter.all false
set_option maxRecDepth 100000
set_option maxHeartbeats 1000000
namespace Eyes
open PySem PySem.Spec PyProof.Rows L2
/-! Some of the cases in their order; what is reached in so many steps. -/
def selN (n : Nat) (f : Nat → Bool) : List Nat := (alone n).filter f
theorem aln_mem {n x : Nat} : x ∈ alone n ↔ 1 ≤ x ∧ x ≤ n := by
  unfold alone
  rw [List.mem_map]
  constructor
  · rintro ⟨y, hy, rfl⟩
    have := List.mem_range.mp hy
    omega
  · rintro ⟨h1, h2⟩
    exact ⟨x - 1, List.mem_range.mpr (by omega), by omega⟩
theorem aln_nodup (n : Nat) : (alone n).Nodup := by
  unfold alone
  exact List.Pairwise.map _ (fun a b h z => h (by omega)) List.nodup_range
theorem sel_mem {n : Nat} {f : Nat → Bool} {x : Nat} : x ∈ selN n f ↔ (1 ≤ x ∧ x ≤ n) ∧ f x = true := by
  unfold selN
  rw [List.mem_filter, aln_mem]
theorem sel_in {n : Nat} {f : Nat → Bool} {x : Nat} (h : x ∈ selN n f) : 1 ≤ x ∧ x ≤ n := (sel_mem.mp h).1
theorem sel_nodup (n : Nat) (f : Nat → Bool) : (selN n f).Nodup := (aln_nodup n).filter _
theorem sel_len (n : Nat) (f : Nat → Bool) : (selN n f).length ≤ n := by
  have := List.length_filter_le f (alone n)
  rw [alone_len] at this
  exact this
theorem sel_congr {n : Nat} {f g : Nat → Bool} (h : ∀ x, 1 ≤ x → x ≤ n → f x = g x) : selN n f = selN n g := by
  unfold selN
  exact List.filter_congr fun x hx => h x (aln_mem.mp hx).1 (aln_mem.mp hx).2
def memB (es : List Nat) (x : Nat) : Bool := decide (x ∈ es)
def sprB (p cs : List Nat) (x : Nat) : Bool := cs.any fun c => decide (itm p c = itm p x)
theorem memB_iff {es : List Nat} {x : Nat} : memB es x = true ↔ x ∈ es := decide_eq_true_iff
theorem sprB_iff {p cs : List Nat} {x : Nat} : sprB p cs x = true ↔ ∃ c ∈ cs, ali p c x := by
  unfold sprB
  rw [List.any_eq_true]
  exact ⟨fun ⟨c, h1, h2⟩ => ⟨c, h1, of_decide_eq_true (p := itm p c = itm p x) h2⟩, fun ⟨c, h1, h2⟩ => ⟨c, h1, decide_eq_true (p := itm p c = itm p x) h2⟩⟩
def othN (n : Nat) (es : List Nat) : List Nat := selN n fun x => !memB es x
def allN (n : Nat) (es : List Nat) : List Nat := selN n (memB es)
def sprN (n : Nat) (p cs : List Nat) : List Nat := selN n (sprB p cs)
theorem oth_mem {n : Nat} {es : List Nat} {x : Nat} : x ∈ othN n es ↔ (1 ≤ x ∧ x ≤ n) ∧ x ∉ es := by
  unfold othN
  rw [sel_mem, Bool.not_eq_true', ← Bool.not_eq_true, memB_iff]
theorem all_mem {n : Nat} {es : List Nat} {x : Nat} : x ∈ allN n es ↔ (1 ≤ x ∧ x ≤ n) ∧ x ∈ es := by
  unfold allN
  rw [sel_mem, memB_iff]
theorem sel_eq {n : Nat} {f g : Nat → Bool} (h : ∀ x, x ∈ selN n f ↔ x ∈ selN n g) : selN n f = selN n g := by
  refine sel_congr fun x h1 h2 => ?_
  have e := h x
  rw [sel_mem, sel_mem] at e
  rw [Bool.eq_iff_iff]
  exact ⟨fun z => (e.mp ⟨⟨h1, h2⟩, z⟩).2, fun z => (e.mpr ⟨⟨h1, h2⟩, z⟩).2⟩
theorem all_sel {n : Nat} {f : Nat → Bool} : allN n (selN n f) = selN n f :=
  sel_eq fun x => by
    show x ∈ allN n (selN n f) ↔ _
    rw [all_mem]
    exact ⟨fun h => h.2, fun h => ⟨sel_in h, h⟩⟩
def knwN (n : Nat) (p es : List Nat) : List Nat := othN n (sprN n p (othN n es))
def Stl (n : Nat) (p es : List Nat) : Prop := ∀ x y, 1 ≤ x → x ≤ n → 1 ≤ y → y ≤ n → ali p x y → x ∈ es → y ∈ es
/-! ### in so many steps -/
section
variable {n : Nat} {ps : List (List Nat)}
def Stp (ps : List (List Nat)) (x y : Nat) : Prop := ∃ p ∈ ps, ali p x y
def Rch (n : Nat) (ps : List (List Nat)) : Nat → Nat → Nat → Prop
  | 0, x, y => x = y
  | k + 1, x, y => ∃ z, (1 ≤ z ∧ z ≤ n) ∧ Rch n ps k x z ∧ Stp ps z y
theorem Stp.symm {x y : Nat} (h : Stp ps x y) : Stp ps y x := by
  obtain ⟨p, h1, h2⟩ := h
  exact ⟨p, h1, h2.symm⟩
theorem Stp.refl (hne : ps ≠ []) {x : Nat} : Stp ps x x := by
  cases ps with
  | nil => exact absurd rfl hne
  | cons p r => exact ⟨p, List.mem_cons_self, rfl⟩
theorem Rch.front {k : Nat} : ∀ {x y z : Nat}, (1 ≤ x ∧ x ≤ n) → (1 ≤ z ∧ z ≤ n) → Stp ps x z → Rch n ps k z y → Rch n ps (k + 1) x y := by
  induction k with
  | zero =>
    intro x y z hx hz s r
    cases r
    exact ⟨x, hx, rfl, s⟩
  | succ k ih =>
    intro x y z hx hz s r
    obtain ⟨u, hu, r1, s1⟩ := r
    exact ⟨u, hu, ih hx hz s r1, s1⟩
theorem Rch.symm {k : Nat} : ∀ {x y : Nat}, (1 ≤ x ∧ x ≤ n) → (1 ≤ y ∧ y ≤ n) → Rch n ps k x y → Rch n ps k y x := by
  induction k with
  | zero =>
    intro x y hx hy r
    exact Eq.symm r
  | succ k ih =>
    intro x y hx hy r
    obtain ⟨z, hz, r1, s1⟩ := r
    exact Rch.front hy hz s1.symm (ih hx hz r1)
theorem Rch.up (hne : ps ≠ []) {k x y : Nat} (hy : 1 ≤ y ∧ y ≤ n) (h : Rch n ps k x y) : Rch n ps (k + 1) x y := ⟨y, hy, h, Stp.refl hne⟩
theorem Rch.mono (hne : ps ≠ []) {k j x y : Nat} (hy : 1 ≤ y ∧ y ≤ n) (hkj : k ≤ j) (h : Rch n ps k x y) : Rch n ps j x y := by
  induction hkj with
  | refl => exact h
  | step _ ih => exact ih.up hne hy
instance rchDec (n : Nat) (ps : List (List Nat)) : ∀ k x y, Decidable (Rch n ps k x y)
  | 0, x, y => inferInstanceAs (Decidable (x = y))
  | k + 1, x, y => by
    have : Decidable (∃ z ∈ alone n, Rch n ps k x z ∧ ∃ p ∈ ps, itm p z = itm p y) :=
      @List.decidableBEx _ _ (fun z => @instDecidableAnd _ _ (rchDec n ps k x z) inferInstance) _
    refine decidable_of_iff (∃ z ∈ alone n, Rch n ps k x z ∧ ∃ p ∈ ps, itm p z = itm p y) ⟨fun h => ?_, fun h => ?_⟩
    · obtain ⟨z, h1, h2, h3⟩ := h
      exact ⟨z, aln_mem.mp h1, h2, h3⟩
    · obtain ⟨z, h1, h2, h3⟩ := h
      exact ⟨z, aln_mem.mpr h1, h2, h3⟩
def rchB (n : Nat) (ps : List (List Nat)) (k x y : Nat) : Bool := decide (Rch n ps k x y)
def widN (n : Nat) (ps : List (List Nat)) (cs : List Nat) : List Nat := selN n fun x => ps.any fun p => sprB p cs x
theorem wid_mem {cs : List Nat} {x : Nat} : x ∈ widN n ps cs ↔ (1 ≤ x ∧ x ≤ n) ∧ ∃ c ∈ cs, Stp ps c x := by
  unfold widN
  rw [sel_mem, List.any_eq_true]
  constructor
  · rintro ⟨h1, p, hp, h⟩
    obtain ⟨c, hc, a⟩ := sprB_iff.mp h
    exact ⟨h1, c, hc, p, hp, a⟩
  · rintro ⟨h1, c, hc, p, hp, a⟩
    exact ⟨h1, p, hp, sprB_iff.mpr ⟨c, hc, a⟩⟩
def witN (n : Nat) (ps : List (List Nat)) : Nat → List Nat → List Nat
  | 0, cs => cs
  | k + 1, cs => widN n ps (witN n ps k cs)
theorem wit_mem {cs : List Nat} (hcs : ∀ c ∈ cs, 1 ≤ c ∧ c ≤ n) : ∀ {k x : Nat}, x ∈ witN n ps k cs ↔ (1 ≤ x ∧ x ≤ n) ∧ ∃ c ∈ cs, Rch n ps k c x
  | 0, x => ⟨fun h => ⟨hcs x h, x, h, rfl⟩, fun ⟨_, c, h, e⟩ => by
    have e : c = x := e
    rw [← e]
    exact h⟩
  | k + 1, x => by
    show x ∈ widN n ps (witN n ps k cs) ↔ _
    rw [wid_mem]
    constructor
    · rintro ⟨h1, z, hz, s⟩
      obtain ⟨hz1, c, hc, r⟩ := (wit_mem hcs).mp hz
      exact ⟨h1, c, hc, z, hz1, r, s⟩
    · rintro ⟨h1, c, hc, z, hz, r, s⟩
      exact ⟨h1, z, (wit_mem hcs).mpr ⟨hz, c, hc, r⟩, s⟩
def kbeN (n : Nat) (ps : List (List Nat)) (k : Nat) (es : List Nat) : List Nat := othN n (witN n ps k (othN n es))
theorem kbe_mem {k : Nat} {es : List Nat} {x : Nat} : x ∈ kbeN n ps k es ↔ (1 ≤ x ∧ x ≤ n) ∧ ∀ y, 1 ≤ y → y ≤ n → Rch n ps k x y → y ∈ es := by
  unfold kbeN
  rw [oth_mem, wit_mem fun c hc => (oth_mem.mp hc).1]
  constructor
  · rintro ⟨h1, h2⟩
    exact ⟨h1, fun y y1 y2 r => Decidable.byContradiction fun z => h2 ⟨h1, y, oth_mem.mpr ⟨⟨y1, y2⟩, z⟩, r.symm h1 ⟨y1, y2⟩⟩⟩
  · rintro ⟨h1, h2⟩
    refine ⟨h1, fun ⟨_, c, hc, r⟩ => ?_⟩
    obtain ⟨c1, c2⟩ := oth_mem.mp hc
    exact c2 (h2 c c1.1 c1.2 (r.symm c1 h1))
theorem sub_nodup_eq {f g : Nat → Bool} (h : ∀ x, f x = true → g x = true) (hl : (selN n f).length = (selN n g).length) : selN n f = selN n g := by
  have e : selN n f = (selN n g).filter f := by
    unfold selN
    rw [List.filter_filter]
    exact List.filter_congr fun x _ => by
      cases hf : f x
      · rfl
      · rw [h x hf]; rfl
  rw [e] at hl ⊢
  exact List.filter_eq_self.mpr (List.length_filter_eq_length_iff.mp hl)
theorem wid_full {f : Nat → Bool} (hne : ps ≠ []) (hl : (widN n ps (selN n f)).length = (selN n f).length) : widN n ps (selN n f) = selN n f := by
  have e : selN n f = selN n (fun x => f x && decide (1 ≤ x) && decide (x ≤ n)) := sel_congr fun x h1 h2 => by
    rw [decide_eq_true h1, decide_eq_true h2, Bool.and_true, Bool.and_true]
  refine Eq.symm ?_
  unfold widN at hl ⊢
  rw [e] at hl ⊢
  refine sub_nodup_eq (fun x hx => ?_) hl.symm
  simp only [Bool.and_eq_true, decide_eq_true_eq] at hx
  have : x ∈ widN n ps (selN n f) := wid_mem.mpr ⟨⟨hx.1.2, hx.2⟩, x, sel_mem.mpr ⟨⟨hx.1.2, hx.2⟩, hx.1.1⟩, Stp.refl hne⟩
  rw [e] at this
  exact (sel_mem.mp this).2
theorem rch_bound (hne : ps ≠ []) {x : Nat} (hx : 1 ≤ x ∧ x ≤ n) {j y : Nat} (hy : 1 ≤ y ∧ y ≤ n) (h : Rch n ps j x y) : Rch n ps n x y := by
  by_cases hj : j ≤ n
  · exact h.mono hne hy hj
  -- the balls about x
  let B : Nat → List Nat := fun k => witN n ps k [x]
  have hB : ∀ k z, z ∈ B k ↔ (1 ≤ z ∧ z ≤ n) ∧ Rch n ps k x z := fun k z => by
    show z ∈ witN n ps k [x] ↔ _
    rw [wit_mem (fun c hc => by rw [List.mem_singleton.mp hc]; exact hx)]
    constructor
    · rintro ⟨h1, c, hc, r⟩
      rw [List.mem_singleton.mp hc] at r
      exact ⟨h1, r⟩
    · rintro ⟨h1, r⟩
      exact ⟨h1, x, List.mem_singleton.mpr rfl, r⟩
  have hsel : ∀ k, ∃ f, B k = selN n f := fun k => by
    cases k with
    | zero =>
      refine ⟨fun z => decide (z = x), ?_⟩
      have h1 : (selN n fun z => decide (z = x)) = [x] := by
        have hn := sel_nodup n (fun z => decide (z = x))
        have hm : ∀ z, z ∈ selN n (fun z => decide (z = x)) ↔ z = x := fun z => by
          rw [sel_mem, decide_eq_true_iff]
          exact ⟨fun h => h.2, fun h => ⟨by rw [h]; exact hx, h⟩⟩
        match hl : selN n (fun z => decide (z = x)) with
        | [] => exact absurd ((hm x).mpr rfl) (by rw [hl]; exact List.not_mem_nil)
        | [a] => rw [(hm a).mp (by rw [hl]; exact List.mem_singleton.mpr rfl)]
        | a :: b :: r =>
          rw [hl] at hn
          have ha := (hm a).mp (by rw [hl]; exact List.mem_cons_self)
          have hb := (hm b).mp (by rw [hl]; exact List.mem_cons_of_mem _ List.mem_cons_self)
          exact absurd (show a ∈ b :: r by rw [ha, hb]; exact List.mem_cons_self) (List.nodup_cons.mp hn).1
      exact h1.symm
    | succ k => exact ⟨_, rfl⟩
  have grow : ∀ k, B (k + 1) = B k ∨ (B k).length + 1 ≤ (B (k + 1)).length := fun k => by
    obtain ⟨f, hf⟩ := hsel k
    by_cases hl : (B (k + 1)).length = (B k).length
    · left
      have e : B (k + 1) = widN n ps (B k) := rfl
      rw [e, hf] at hl ⊢
      exact wid_full hne hl
    · right
      obtain ⟨g, hg⟩ := hsel (k + 1)
      have sub : ∀ z ∈ B k, z ∈ B (k + 1) := fun z hz => by
        obtain ⟨z1, z2⟩ := (hB k z).mp hz
        exact (hB (k + 1) z).mpr ⟨z1, z2.up hne z1⟩
      have e : B k = (B (k + 1)).filter fun z => memB (B k) z := by
        have : allN n (B k) = B k := by rw [hf]; exact all_sel
        rw [← this, hg]
        unfold allN selN
        rw [List.filter_filter]
        refine List.filter_congr fun z hz => ?_
        have hz1 := aln_mem.mp hz
        cases hm : memB (B k) z
        · rw [show memB (List.filter (memB (B k)) (alone n)) z = false from ?_]
          · rfl
          · rw [Bool.eq_false_iff, Ne, memB_iff, List.mem_filter]
            rintro ⟨_, h2⟩
            rw [hm] at h2
            cases h2
        · have h1 : z ∈ B k := memB_iff.mp hm
          have h2 : g z = true := by
            have := sub z h1
            rw [hg] at this
            exact (sel_mem.mp this).2
          rw [h2, Bool.and_true]
          exact (memB_iff.mpr (List.mem_filter.mpr ⟨hz, hm⟩)).symm
      have := List.length_filter_le (fun z => memB (B k) z) (B (k + 1))
      rw [← e] at this
      omega
  have stay : ∀ k, B (k + 1) = B k → ∀ i, B (k + i) = B k := fun k e i => by
    induction i with
    | zero => rfl
    | succ i ih =>
      show widN n ps (B (k + i)) = B k
      rw [ih]
      exact e
  have key : ∀ k, (∃ i, i < k ∧ B (i + 1) = B i) ∨ k + 1 ≤ (B k).length := fun k => by
    induction k with
    | zero =>
      right
      have : x ∈ B 0 := (hB 0 x).mpr ⟨hx, rfl⟩
      have := List.length_pos_of_mem this
      omega
    | succ k ih =>
      rcases ih with ⟨i, h1, h2⟩ | ih
      · exact .inl ⟨i, by omega, h2⟩
      · rcases grow k with g | g
        · exact .inl ⟨k, by omega, g⟩
        · exact .inr (by omega)
  have hBn : (B n).length ≤ n := by
    obtain ⟨f, hf⟩ := hsel n
    rw [hf]
    exact sel_len n f
  rcases key n with ⟨i, h1, h2⟩ | k1
  · have e1 := stay i h2 (n - i)
    have e2 := stay i h2 (j - i)
    rw [show i + (n - i) = n by omega] at e1
    rw [show i + (j - i) = j by omega] at e2
    have : y ∈ B j := (hB j y).mpr ⟨hy, h⟩
    rw [e2, ← e1] at this
    exact ((hB n y).mp this).2
  · omega
end
/-! ### rounds of steps, with the row of what is how far -/
def faI (fs : List Int) (y : Nat) : Int := fs.getD (y - 1) (-1)
theorem faI_set {fs : List Int} {y z : Nat} {k : Int} (h1 : 1 ≤ y) (h2 : y ≤ fs.length) (h3 : 1 ≤ z) : faI (fs.set (y - 1) k) z = if z = y then k else faI fs z := by
  unfold faI
  rw [List.getD_eq_getElem?_getD, List.getD_eq_getElem?_getD, List.getElem?_set]
  by_cases h : z = y
  · subst h
    rw [if_pos rfl, if_pos (by omega), if_pos rfl]
    rfl
  · rw [if_neg (by omega), if_neg h]
structure Mk (n : Nat) (k : Int) (f0 : List Int) (S : Nat → Prop) (fs : List Int) (fr : List Nat) : Prop where
  len : fs.length = n
  old : ∀ y, 1 ≤ y → y ≤ n → 0 ≤ faI f0 y → faI fs y = faI f0 y
  new : ∀ y, 1 ≤ y → y ≤ n → faI f0 y < 0 → S y → faI fs y = k
  non : ∀ y, 1 ≤ y → y ≤ n → faI f0 y < 0 → ¬ S y → faI fs y < 0
  mem : ∀ y, y ∈ fr ↔ (1 ≤ y ∧ y ≤ n) ∧ faI f0 y < 0 ∧ S y
  nd : fr.Nodup
theorem Mk.congr {n : Nat} {k : Int} {f0 fs : List Int} {S S2 : Nat → Prop} {fr : List Nat} (h : Mk n k f0 S fs fr) (e : ∀ y, 1 ≤ y → y ≤ n → (S y ↔ S2 y)) : Mk n k f0 S2 fs fr :=
  ⟨h.len, h.old, fun y h1 h2 h3 h4 => h.new y h1 h2 h3 ((e y h1 h2).mpr h4), fun y h1 h2 h3 h4 => h.non y h1 h2 h3 (fun z => h4 ((e y h1 h2).mp z)), fun y => by
    rw [h.mem y]
    exact ⟨fun ⟨a, b, c⟩ => ⟨a, b, (e y a.1 a.2).mp c⟩, fun ⟨a, b, c⟩ => ⟨a, b, (e y a.1 a.2).mpr c⟩⟩, h.nd⟩
theorem Mk.start {n : Nat} {k : Int} {f0 : List Int} (h : f0.length = n) : Mk n k f0 (fun _ => False) f0 [] :=
  ⟨h, fun _ _ _ _ => rfl, fun _ _ _ _ z => z.elim, fun _ _ _ h _ => h, fun y => ⟨(fun z => nomatch z), fun z => z.2.2.elim⟩, List.nodup_nil⟩
theorem Mk.step {n : Nat} {k : Int} {f0 fs : List Int} {S : Nat → Prop} {fr : List Nat} (h : Mk n k f0 S fs fr) {y : Nat} (h1 : 1 ≤ y) (h2 : y ≤ n) (hk : 0 ≤ k) (hf : faI fs y < 0) : Mk n k f0 (fun z => S z ∨ z = y) (fs.set (y - 1) k) (fr ++ [y]) := by
  have hs : ∀ {z}, 1 ≤ z → faI (fs.set (y - 1) k) z = if z = y then k else faI fs z := fun h3 => faI_set h1 (by rw [h.len]; exact h2) h3
  have h0 : faI f0 y < 0 := by
    refine Int.not_le.mp fun z => ?_
    rw [h.old y h1 h2 z] at hf
    omega
  have hS : ¬ S y := fun z => by
    rw [h.new y h1 h2 h0 z] at hf
    omega
  refine ⟨by rw [List.length_set]; exact h.len, fun z z1 z2 z3 => ?_, fun z z1 z2 z3 z4 => ?_, fun z z1 z2 z3 z4 => ?_, fun z => ?_, ?_⟩
  · rw [hs z1, if_neg fun e => by rw [e] at z3; omega]
    exact h.old z z1 z2 z3
  · rw [hs z1]
    by_cases e : z = y
    · rw [if_pos e]
    · rw [if_neg e]
      exact h.new z z1 z2 z3 (z4.resolve_right e)
  · rw [hs z1, if_neg fun e => z4 (.inr e)]
    exact h.non z z1 z2 z3 fun e => z4 (.inl e)
  · rw [List.mem_append, h.mem z, List.mem_singleton]
    constructor
    · rintro (⟨a, b, c⟩ | rfl)
      · exact ⟨a, b, .inl c⟩
      · exact ⟨⟨h1, h2⟩, h0, .inr rfl⟩
    · rintro ⟨a, b, c | rfl⟩
      · exact .inl ⟨a, b, c⟩
      · exact .inr rfl
  · rw [List.nodup_append]
    refine ⟨h.nd, List.nodup_cons.mpr ⟨List.not_mem_nil, List.nodup_nil⟩, fun a ha b hb e => ?_⟩
    rw [List.mem_singleton.mp hb] at e
    rw [e] at ha
    exact hS ((h.mem y).mp ha).2.2
theorem Mk.few {n : Nat} {k : Int} {f0 fs : List Int} {S : Nat → Prop} {fr : List Nat} (h : Mk n k f0 S fs fr) : fr.length ≤ n := by
  have e : fr.length ≤ (alone n).length := nodup_le h.nd fun y hy => aln_mem.mpr ((h.mem y).mp hy).1
  rw [alone_len] at e
  exact e
structure Far (n : Nat) (ps : List (List Nat)) (u : Nat) (k : Nat) (fs : List Int) (es : List Nat) : Prop where
  len : fs.length = n
  rch : ∀ y, 1 ≤ y → y ≤ n → ∀ j, j ≤ k → ((0 ≤ faI fs y ∧ faI fs y ≤ (j : Int)) ↔ Rch n ps j u y)
  top : ∀ y, 1 ≤ y → y ≤ n → faI fs y ≤ (k : Int)
  edg : ∀ y, y ∈ es ↔ (1 ≤ y ∧ y ≤ n) ∧ faI fs y = (k : Int)
  few : es.length ≤ n
theorem Far.start {n : Nat} {ps : List (List Nat)} {u : Nat} (hu : 1 ≤ u ∧ u ≤ n) : Far n ps u 0 ((List.replicate n (-1)).set (u - 1) 0) [u] := by
  have hf : ∀ y, 1 ≤ y → y ≤ n → faI ((List.replicate n (-1 : Int)).set (u - 1) 0) y = if y = u then 0 else -1 := fun y h1 h2 => by
    rw [faI_set hu.1 (by rw [List.length_replicate]; exact hu.2) h1]
    by_cases e : y = u
    · rw [if_pos e, if_pos e]
    · rw [if_neg e, if_neg e]
      unfold faI
      rw [List.getD_eq_getElem?_getD, List.getElem?_replicate, if_pos (by omega)]
      rfl
  refine ⟨by rw [List.length_set, List.length_replicate], fun y h1 h2 j hj => ?_, fun y h1 h2 => ?_, fun y => ?_, by show 1 ≤ n; omega⟩
  · obtain rfl : j = 0 := by omega
    rw [hf y h1 h2]
    show _ ↔ u = y
    by_cases e : y = u
    · rw [if_pos e]
      exact ⟨fun _ => e.symm, fun _ => ⟨Int.le_refl _, Int.le_refl _⟩⟩
    · rw [if_neg e]
      exact ⟨fun z => absurd z.1 (by decide), fun z => absurd z.symm e⟩
  · rw [hf y h1 h2]
    by_cases e : y = u
    · rw [if_pos e]; exact Int.le_refl _
    · rw [if_neg e]; show (-1 : Int) ≤ 0; decide
  · rw [List.mem_singleton]
    constructor
    · rintro rfl
      exact ⟨hu, by rw [hf y hu.1 hu.2, if_pos rfl]; rfl⟩
    · rintro ⟨h1, h2⟩
      rw [hf y h1.1 h1.2] at h2
      refine Decidable.byContradiction fun e => ?_
      rw [if_neg e] at h2
      exact absurd h2 (by decide)
theorem Far.next {n : Nat} {ps : List (List Nat)} {u k : Nat} {fs fs2 : List Int} {es fr : List Nat} (hne : ps ≠ []) (h : Far n ps u k fs es) (m : Mk n ((k + 1 : Nat) : Int) fs (fun y => ∃ x ∈ es, Stp ps x y) fs2 fr) : Far n ps u (k + 1) fs2 fr := by
  have low : ∀ y, 1 ≤ y → y ≤ n → ¬ (0 ≤ faI fs y) → ¬ Rch n ps k u y := fun y h1 h2 h3 r => h3 ((h.rch y h1 h2 k (Nat.le_refl _)).mpr r).1
  have nxt : ∀ y, 1 ≤ y → y ≤ n → faI fs y < 0 → ((∃ x ∈ es, Stp ps x y) ↔ Rch n ps (k + 1) u y) := fun y h1 h2 h3 => by
    constructor
    · rintro ⟨x, hx, s⟩
      obtain ⟨x1, x2⟩ := (h.edg x).mp hx
      exact ⟨x, x1, (h.rch x x1.1 x1.2 k (Nat.le_refl _)).mp ⟨by omega, by omega⟩, s⟩
    · rintro ⟨x, x1, r, s⟩
      obtain ⟨a, b⟩ := (h.rch x x1.1 x1.2 k (Nat.le_refl _)).mpr r
      refine ⟨x, (h.edg x).mpr ⟨x1, ?_⟩, s⟩
      refine Decidable.byContradiction fun hc => ?_
      -- x was reached before
      have hk : 1 ≤ k := by omega
      have r2 := (h.rch x x1.1 x1.2 (k - 1) (by omega)).mp ⟨a, by omega⟩
      have r3 : Rch n ps (k - 1 + 1) u y := ⟨x, x1, r2, s⟩
      rw [show k - 1 + 1 = k by omega] at r3
      exact low y h1 h2 (by omega) r3
  refine ⟨m.len, fun y h1 h2 j hj => ?_, fun y h1 h2 => ?_, fun y => ?_, m.few⟩
  · by_cases h0 : 0 ≤ faI fs y
    · rw [m.old y h1 h2 h0]
      by_cases hjk : j ≤ k
      · exact h.rch y h1 h2 j hjk
      · obtain rfl : j = k + 1 := by omega
        have := h.top y h1 h2
        exact ⟨fun _ => ((h.rch y h1 h2 k (Nat.le_refl _)).mp ⟨h0, this⟩).up hne ⟨h1, h2⟩, fun _ => ⟨h0, by omega⟩⟩
    · have h0' : faI fs y < 0 := by omega
      have e := nxt y h1 h2 h0'
      by_cases hS : ∃ x ∈ es, Stp ps x y
      · rw [m.new y h1 h2 h0' hS]
        have r := e.mp hS
        by_cases hjk : j ≤ k
        · exact ⟨fun z => by omega, fun z => absurd (z.mono hne ⟨h1, h2⟩ hjk) (low y h1 h2 h0)⟩
        · obtain rfl : j = k + 1 := by omega
          exact ⟨fun _ => r, fun _ => ⟨by omega, by omega⟩⟩
      · have := m.non y h1 h2 h0' hS
        exact ⟨fun z => by omega, fun z => absurd (e.mpr (z.mono hne ⟨h1, h2⟩ hj)) hS⟩
  · by_cases h0 : 0 ≤ faI fs y
    · rw [m.old y h1 h2 h0]
      have := h.top y h1 h2
      omega
    · by_cases hS : ∃ x ∈ es, Stp ps x y
      · rw [m.new y h1 h2 (by omega) hS]
        exact Int.le_refl _
      · have := m.non y h1 h2 (by omega) hS
        omega
  · rw [m.mem y]
    constructor
    · rintro ⟨a, b, c⟩
      exact ⟨a, m.new y a.1 a.2 b c⟩
    · rintro ⟨a, b⟩
      have h0 : faI fs y < 0 := by
        refine Int.not_le.mp fun z => ?_
        rw [m.old y a.1 a.2 z] at b
        have := h.top y a.1 a.2
        omega
      refine ⟨a, h0, ?_⟩
      by_cases hS : ∃ x ∈ es, Stp ps x y
      · exact hS
      · have := m.non y a.1 a.2 h0 hS
        omega
theorem Far.all {n : Nat} {ps : List (List Nat)} {u : Nat} {fs : List Int} {es : List Nat} (hne : ps ≠ []) (hu : 1 ≤ u ∧ u ≤ n) (h : Far n ps u n fs es) {y : Nat} (h1 : 1 ≤ y) (h2 : y ≤ n) (j : Nat) : (0 ≤ faI fs y ∧ faI fs y ≤ (j : Int)) ↔ Rch n ps j u y := by
  by_cases hj : j ≤ n
  · exact h.rch y h1 h2 j hj
  · have e := h.rch y h1 h2 n (Nat.le_refl _)
    have := h.top y h1 h2
    constructor
    · rintro ⟨a, b⟩
      exact (e.mp ⟨a, this⟩).mono hne ⟨h1, h2⟩ (by omega)
    · intro r
      exact ⟨(e.mpr (rch_bound hne hu ⟨h1, h2⟩ r)).1, by omega⟩
theorem Far.each {n : Nat} {ps : List (List Nat)} {u : Nat} {fs : List Int} {es : List Nat} (hne : ps ≠ []) (hu : 1 ≤ u ∧ u ≤ n) (h : Far n ps u n fs es) (j : Nat) (sp : List Nat) : (selN n fun y => decide (0 ≤ faI fs y) && decide (faI fs y ≤ (j : Int)) && !memB sp y) = [] ↔ u ∈ kbeN n ps j sp := by
  rw [kbe_mem]
  have key : ∀ y, y ∈ (selN n fun y => decide (0 ≤ faI fs y) && decide (faI fs y ≤ (j : Int)) && !memB sp y) ↔ (1 ≤ y ∧ y ≤ n) ∧ Rch n ps j u y ∧ y ∉ sp := fun y => by
    rw [sel_mem]
    constructor
    · rintro ⟨a, b⟩
      simp only [Bool.and_eq_true, decide_eq_true_eq, Bool.not_eq_true', ← Bool.not_eq_true, memB_iff] at b
      exact ⟨a, (h.all hne hu a.1 a.2 j).mp b.1, b.2⟩
    · rintro ⟨a, r, b⟩
      refine ⟨a, ?_⟩
      have := (h.all hne hu a.1 a.2 j).mpr r
      simp only [Bool.and_eq_true, decide_eq_true_eq, Bool.not_eq_true', ← Bool.not_eq_true, memB_iff]
      exact ⟨this, b⟩
  constructor
  · intro e
    refine ⟨hu, fun y y1 y2 r => Decidable.byContradiction fun z => ?_⟩
    have := (key y).mpr ⟨⟨y1, y2⟩, r, z⟩
    rw [e] at this
    cases this
  · rintro ⟨_, g⟩
    refine List.eq_nil_iff_forall_not_mem.mpr fun y hy => ?_
    obtain ⟨a, r, b⟩ := (key y).mp hy
    exact b (g y a.1 a.2 r)
end Eyes

set_option Elab.async false
set_option linter.all false
set_option maxRecDepth 100000
set_option maxHeartbeats 8000000
/-! set(xs), xs numbers in a list or a tuple, kept or sorted at once; how many it has at most. -/
namespace Eyes
open PySem PySem.Spec PyProof.Rows L2
def rSetI (K : PySem.W.Frag) (w : World) : List V → Hp → VK → Prop := fun vs H Q => ∃ (a : Addr) (xs : List Int), vs = [V.ref a] ∧ SqLT K H a (xs.map V.int) ∧ xs.length ≤ 4000 ∧
  ∀ (p : Addr) (c : Nat), c ≤ xs.length → (∀ L : List Int, (∀ k ∈ xs, k ∈ L) → c ≤ L.length) → H p = none → Q (.ref p) (upd H p (SetO w p (fun j => decide (j ∈ xs)) c))
section
variable {X : Cx}
variable {K : PySem.W.Frag} {w : World}
end
end Eyes

set_option Elab.async false
set_option linter.all false
set_option maxRecDepth 100000
set_option maxHeartbeats 4000000
/-! Events: spread, others. -/
namespace Eyes
open PySem PySem.Spec PyProof.Rows L2 Evl TL
def spSpread (K : PySem.W.Frag) : Sp := fun vs H Q _ => ∃ (a b : Addr) (n : Nat) (p cs : List Nat), vs = [.ref a, .ref b] ∧ n ≤ 2400 ∧ IsP n p ∧ SqT K H a (nvs p) ∧ SqLT K H b (nvs cs) ∧ cs.length ≤ 4000 ∧ (∀ c ∈ cs, 1 ≤ c ∧ c ≤ n) ∧ ∀ r H', Ex H H' → H r = none → H' r = some (.tup (nvs (sprN n p cs))) → Q (.ref r) H'
def spOthers (K : PySem.W.Frag) (CW : Addr) : Sp := fun vs H Q _ => ∃ (v : V) (b : Addr) (n : Nat) (f : Vw) (cs : List Nat), vs = [v, .ref b] ∧ n ≤ 2400 ∧ WorldAt CW H v n f ∧ SqLT K H b (nvs cs) ∧ cs.length ≤ 4000 ∧ ∀ r H', Ex H H' → H r = none → H' r = some (.tup (nvs (othN n cs))) → Q (.ref r) H'
section
variable {P : Program} {w : World} {K : PySem.W.Frag} {mg : Str → Option Value} {base : Heap} {AA : Adr}
end
end Eyes

set_option Elab.async false
set_option linter.all false
set_option maxRecDepth 100000
set_option maxHeartbeats 4000000
/-! Cases that are checked: an event of any things. -/
namespace Eyes
open PySem PySem.Spec PyProof.Rows L2 Evl TL
abbrev ERow := V × PyData
def badE (n : Nat) (rows : List ERow) : Option V := (rows.find? fun r => !numD r.2 1 (n : Int)).map (·.1)
def rowsN (cs : List Nat) : List ERow := cs.map fun c : Nat => (V.int (c : Int), PyData.int (c : Int))
theorem rowsN_vs {cs : List Nat} : (rowsN cs).map (·.1) = nvs cs := by
  unfold rowsN nvs
  rw [List.map_map]
  rfl
theorem rowsN_rep {H : Hp} {cs : List Nat} : ∀ r ∈ rowsN cs, Rep H r.1 r.2 := fun r hr => by
  obtain ⟨c, _, rfl⟩ := List.mem_map.mp hr
  exact .int _
theorem rowsN_good {n : Nat} {cs : List Nat} (h : ∀ c ∈ cs, 1 ≤ c ∧ c ≤ n) : badE n (rowsN cs) = none := by
  unfold badE
  rw [Option.map_eq_none_iff, List.find?_eq_none]
  intro r hr
  obtain ⟨c, hc, rfl⟩ := List.mem_map.mp hr
  have h2 : numD (.int (c : Int)) 1 (n : Int) = true := num_in (h c hc).1 (h c hc).2
  rw [h2]
  decide
def EvX (AA : Adr) (K : PySem.W.Frag) (n : Nat) (a : Addr) (H : Hp) (E : XK) (good : List Nat → Prop) : Prop := ∃ rows : List ERow, SqLT K H a (rows.map (·.1)) ∧ (∀ r ∈ rows, Rep H r.1 r.2) ∧ rows.length ≤ 1000 ∧
  (∀ cs, badE n rows = none → rows.map (·.1) = nvs cs → (∀ c ∈ cs, 1 ≤ c ∧ c ≤ n) → good cs) ∧
  ∀ z, badE n rows = some z → ∀ d H', H d = none → Ex H H' → H' d = some (.xd [("value", z)]) → E (.ref AA.InvalidCase) (some d) H'
theorem nvs_inj {l m : List Nat} (h : nvs l = nvs m) : l = m := by
  unfold nvs at h
  exact List.map_inj_right (fun x y e => Int.ofNat.inj (V.int.inj e)) |>.mp h
theorem EvX.of {AA : Adr} {K : PySem.W.Frag} {n : Nat} {a : Addr} {H : Hp} {E : XK} {good : List Nat → Prop} {cs : List Nat} (ha : SqLT K H a (nvs cs)) (hl : cs.length ≤ 1000) (hcs : ∀ c ∈ cs, 1 ≤ c ∧ c ≤ n) (g : good cs) : EvX AA K n a H E good := by
  refine ⟨rowsN cs, by rw [rowsN_vs]; exact ha, rowsN_rep, by unfold rowsN; rw [List.length_map]; exact hl, fun ds _ e _ => ?_, fun z hz => ?_⟩
  · rw [rowsN_vs] at e
    rw [← nvs_inj e]
    exact g
  · rw [rowsN_good hcs] at hz
    cases hz
def spCheckX (AA : Adr) (K : PySem.W.Frag) : Sp := fun vs H Q E => ∃ (a : Addr) (n : Nat), vs = [.int (n : Int), .ref a] ∧ EvX AA K n a H E fun cs => SqLT K H a (nvs cs) → cs.length ≤ 1000 → ∀ H', Ex H H' → Q .non H'
section
variable {P : Program} {w : World} {K : PySem.W.Frag} {mg : Str → Option Value} {base : Heap} {AA : Adr}
end
end Eyes

set_option Elab.async false
set_option linter.all false
set_option maxRecDepth 100000
set_option maxHeartbeats 4000000
/-! Worlds: tied, exchanged, parted. -/
namespace Eyes
open PySem PySem.Spec PyProof.Rows L2 Evl TL
structure VwPre (n : Nat) (f : Vw) : Prop where
  n1 : 1 ≤ n
  n2 : n ≤ 2400
  nd : (f.map (·.1)).Nodup
  nm : ∀ e ∈ f, e.1.length ≤ 1000
  isP : ∀ t, IsP n (gP n f t)
section
variable {n : Nat} {f : Vw} {ys zs : List Str} {x : Str} {p : List Nat}
theorem VwOk.pre (h : VwOk n f ys) : VwPre n f := ⟨h.n1, h.n2, h.nd, h.nm, h.isP⟩
theorem VwPre.ok (h : VwPre n f) (hl : f.length < 64) (hp : ys.Perm (f.map (·.1))) (hs : sortedS ys = true) : VwOk n f ys := ⟨h.n1, h.n2, hl, h.nd, h.nm, h.isP, hp, hs⟩
theorem VwOk.seen (h : VwOk n f ys) : VwPre n (seenV n f ys) := ⟨h.n1, h.n2, seenV_nodup (h.pm.nodup_iff.mpr h.nd), fun e he => by
    have h1 := seenV_sub (n := n) h.pm (List.mem_map.mpr ⟨e, he, rfl⟩)
    obtain ⟨z, hz, e2⟩ := List.mem_map.mp h1
    rw [← e2]
    exact h.nm z hz, fun t => by
    rw [seen_gP h.pm]
    exact h.isP t⟩
theorem VwPre.put (h : VwPre n f) (hx : x.length ≤ 1000) (hp : IsP n p) : VwPre n (wPut f x p) := ⟨h.n1, h.n2, wPut_nodup h.nd, fun e he => by
    have h1 : e.1 ∈ (wPut f x p).map (·.1) := List.mem_map.mpr ⟨e, he, rfl⟩
    rw [wPut_names] at h1
    have fin : ∀ t, t ∈ f.map (·.1) → t.length ≤ 1000 := fun t ht => by
      obtain ⟨z, hz, e2⟩ := List.mem_map.mp ht
      rw [← e2]
      exact h.nm z hz
    split at h1
    · exact fin _ h1
    · rcases List.mem_append.mp h1 with h1 | h1
      · exact fin _ h1
      · rw [List.mem_singleton.mp h1]
        exact hx, fun t => by
    rw [gP_put]
    split
    · exact hp
    · exact h.isP t⟩
end
def WIs (C : Addr) (H : Hp) (v : V) (n m : Nat) (F : Str → List Nat) : Prop := ∃ f ys, WorldAt C H v n (seenV n f ys) ∧ VwOk n f ys ∧ f.length ≤ m ∧ ∀ t, gP n f t = F t
theorem WIs.mono {C : Addr} {H H' : Hp} {v : V} {n m : Nat} {F : Str → List Nat} (h : WIs C H v n m F) (e : Ex H H') : WIs C H' v n m F := by
  obtain ⟨f, ys, h1, h2⟩ := h
  exact ⟨f, ys, h1.mono e, h2⟩
def spChkN (K : PySem.W.Frag) : Sp := fun vs H Q _ => ∃ (a : Addr) (ts : List Str), vs = [.ref a] ∧ SqLT K H a (ts.map V.str) ∧ (∀ t ∈ ts, nm t) ∧ ∀ H', Ex H H' → Q .non H'
def spTiedW (C : Addr) : Sp := fun vs H Q _ => ∃ (v : V) (x : Str) (a b n m : Nat) (F : Str → List Nat), vs = [v, .str x, .int (a : Int), .int (b : Int)] ∧ WIs C H v n m F ∧ nm x ∧ m + 1 < 64 ∧ (1 ≤ a ∧ a ≤ n) ∧ (1 ≤ b ∧ b ≤ n) ∧
  ∀ u H', Ex H H' → WIs C H' u n (m + 1) (fun t => if t = x then mrg1 (F x) a b else F t) → Q u H'
def spExchW (C : Addr) : Sp := fun vs H Q _ => ∃ (v : V) (x y : Str) (n m : Nat) (F : Str → List Nat), vs = [v, .str x, .str y] ∧ WIs C H v n m F ∧ nm x ∧ nm y ∧ m + 2 < 64 ∧
  ∀ u H', Ex H H' → WIs C H' u n (m + 2) (fun t => F (swp2 x y t)) → Q u H'
def spParted (C : Addr) : Sp := fun vs H Q _ => ∃ (l : Addr) (n : Nat) (f : Vw), vs = [.int (n : Int), .ref l] ∧ VwAt H l n f ∧ VwPre n f ∧ (∀ t ∈ f.map (·.1), Eyes.nm t) ∧ f.length < 64 ∧
  ∀ u H', Ex H H' → WIs C H' u n f.length (gP n f) → Q u H'
section
variable {P : Program} {w : World} {K : PySem.W.Frag} {mg : Str → Option Value} {base : Heap} {AA : Adr}
theorem ok_check_names (T : Txt K mg AA) : Pr P w K mg base "check_names" s_check_names p_check_names 3 (spChkN K) := by
  refine pr_mk T.f_check_names sc_check_names (fun vs H Q E h => ?_) (fun f cdv A outer s H vs Q E hr h => ?_)
  · obtain ⟨a, ts, rfl, _⟩ := h
    rfl
  · obtain ⟨a, ts, rfl, ha, hts, q⟩ := h
    refine ⟨_, (pss_one (ps_for PassesOwn.never rfl (pi_or (pi_list (pv 0)) (pi_tup (pv 0))) (pg_name (i := 1) sc_check_names.nd rfl (.inl rfl))
      (pss_one (ps_if (pt_not (pt_val (pcall (ok_is_name T) hr (pa_cons (pv 1) pa_nil))))
      pss_never
      pss_nil)))), ?_⟩
    refine lt_var rfl ha fun J GG hw hG => for_it hw (fun i σ H' => (∃ y2, σ = [some (.ref a), y2]) ∧ Ex H H') ⟨⟨none, rfl⟩, Ex.refl _⟩ (fun i σ H' _ hp => hG _ hp.2) (fun i v σ H' H2 hi hp hy => ?_) (fun σ H' hp => ?_)
    · obtain ⟨rfl, hv⟩ := hy
      obtain ⟨⟨y2, rfl⟩, e⟩ := hp
      rw [List.getElem?_map] at hv
      obtain ⟨t, ht, rfl⟩ := Option.map_eq_some_iff.mp hv
      have hn := hts t (List.mem_of_getElem? ht)
      refine ⟨_, rfl, .str t, .s t, rfl, ⟨rfl, nm_okS hn⟩, fun H1 e1 => ⟨_, rfl, ?_⟩⟩
      show if (!nameS t) = true then _ else _
      rw [nm_name hn]
      exact iteF ⟨⟨_, rfl⟩, e.trans e1⟩
    · exact q _ hp.2
theorem WIs.many {C : Addr} {H : Hp} {v : V} {n m : Nat} {F : Str → List Nat} (h : WIs C H v n m F) : 1 ≤ n ∧ n ≤ 2400 := by
  obtain ⟨f, ys, _, ok, _⟩ := h
  exact ⟨ok.n1, ok.n2⟩
def spPartTo : Sp := fun vs H Q _ => ∃ (a : Addr) (p : List Nat) (n : Nat), vs = [.ref a, .int (n : Int)] ∧ H a = some (.tup (nvs p)) ∧ IsP n p ∧ 1 ≤ n ∧ n ≤ 4096 ∧ ∀ H', Ex H H' → Q (.bl true) H'
theorem ok_is_parting_to (T : Txt K mg AA) : Pr P w K mg base "is_parting_to" s_is_parting_to p_is_parting_to 4 spPartTo := by
  refine pr_mk T.f_is_parting_to sc_is_parting_to (fun vs H Q E h => ?_) (fun f cdv A outer s H vs Q E hr h => ?_)
  · obtain ⟨a, p, n, rfl, _⟩ := h
    rfl
  · obtain ⟨a, p, n, rfl, ha, hP, h1, hn, q⟩ := h
    refine ⟨_, (pss_one (ps_ret (pe_and (pcall (ok_is_parting T) hr (pa_cons (pv 0) pa_nil)) (pe_one (pe_cmpR op_eq (pe_callB (call_len_seqK (K := K) rfl) (by rfl) T.n_len PySem.boot_len (pa_cons (pv 0) pa_nil)) (pv 1) (nomark _)))))), ?_⟩
    refine ⟨_, rfl, .ref a, .tuple (ndats p), rfl, .tup ha (reps_ndats p), fun ds hds => ?_, fun H1 e1 => ?_⟩
    · cases hds
      refine ⟨?_, shaped_ndats⟩
      unfold ndats
      rw [List.length_map, hP.len]
      exact hn
    rw [partD_of hP h1]
    refine ⟨_, rfl, iteT ⟨_, rfl, a, nvs p, rfl, .inr (st_of (e1 _ _ ha)), _, rfl, rfl, ?_⟩⟩
    have e2 : decide (V.int ((nvs p).length : Int) = V.int (n : Int)) = true := decide_eq_true (by rw [nvs_len, hP.len])
    show Q (.bl (decide (V.int ((nvs p).length : Int) = V.int (n : Int)))) H1
    rw [e2]
    exact q _ e1
end
end Eyes

set_option Elab.async false
set_option linter.all false
set_option maxRecDepth 100000
set_option maxHeartbeats 4000000
/-! x, *rest = a list. -/
namespace Eyes
open PySem PySem.Spec PyProof.Rows L2
section
variable {prog : Program} {w : World} {A : Around} {E : Value → Shared → Prop} {s : Shared}
theorem unpack_starL {l : Addr} {items : Array Value} {x : Value} {xs : List Value} {Q : List Value → Shared → Prop} (hl : s.heap.IsList l items) (hit : items.toList = x :: xs) (hh : A.handled = none) (hz : items.size ≤ 16384)
    (h : ∀ (h1 : Heap) tk, (∀ b o, s.heap.get? b = some o → h1.get? b = some o) → s.heap.get? h1.objs.size = none → Q [x, .ref h1.objs.size] { s with heap := h1.push { cls := .type "list", data := .seq xs.toArray }, toks := tk }) : wpAny (model prog w) A (unpackItems (.ref l) 2 (some 1)) Q E s := by
  have hsz : items.size = xs.length + 1 := by rw [← Array.length_toList, hit, List.length_cons]
  have hlt : l ≠ s.heap.objs.size := by obtain ⟨o, ho, _⟩ := hl; exact Nat.ne_of_lt (Heap.lt_size ho)
  unfold unpackItems
  refine wpAny_bind ?_
  unfold notIterableAtAll
  refine wpAny_bind (wpAny_specialOf hl.typeIs slot_list_iter.lookup ?_)
  refine wpAny_pure ?_
  simp only [Bool.false_eq_true, if_false]
  refine wpAny_bind (wpAny_holding (wpAny_pyIter_list hl ?_))
  refine wpAny_bind (wpAny_holding (PySem.W.kun_draw hlt 1 0 _ _ ⟨_, Heap.get?_push_size _ rfl, rfl, rfl⟩ (hl.push _) (by omega) fun h₁ hit₁ hs₁ => ?_))
  have hl₁ : h₁.IsList l items := (hl.push _).extBut hs₁.extBut hlt
  rw [Nat.zero_add] at hit₁
  have hit₁' := hit₁
  obtain ⟨oi, hoi, _⟩ := hit₁'
  have hl₁' := hl₁
  obtain ⟨ol, hol, _⟩ := hl₁'
  rw [List.drop_zero, show items.toList.take 1 = [x] by rw [hit]; rfl]
  rw [if_neg (show ¬ ([x].length < 1) from Nat.lt_irrefl 1)]
  refine wpAny_bind (wpAny_holding (PySem.W.kun_collect (s := { s with heap := h₁ }) (T := "list_iterator") (.inr (.inr (.inl rfl))) (Walks.list (A := A.in1) hh s.heap.objs.size l hlt items) (fun j u st => st.1.typeIs) (k := 1) (by omega) ⟨hit₁, hl₁⟩ (Heap.lt_size hoi) (Heap.lt_size hol) (fun h₂ tk hk => ?_) (by rw [sizeLine_eq]; omega)))
  rw [show items.toList.drop 1 = xs by rw [hit]; rfl]
  show wpAny _ _ (if xs.length < 2 - 1 - 1 then _ else _) _ _ _
  rw [if_neg (by omega)]
  show wpAny _ _ (newList (xs.take (xs.length - (2 - 1 - 1))) >>= fun d => pure ([x] ++ [d] ++ xs.drop (xs.length - (2 - 1 - 1)))) _ _ _
  rw [show xs.length - (2 - 1 - 1) = xs.length by omega, List.take_length, List.drop_length]
  have hk2 : ∀ b o, s.heap.get? b = some o → h₂.get? b = some o := fun b o e => by
    have hb := Heap.lt_size e
    exact hk b o (Nat.ne_of_lt hb) (hs₁.extBut b o (Nat.ne_of_lt hb) (Heap.get?_push_of_some _ e))
  have hle : s.heap.get? h₂.objs.size = none := by
    cases e : s.heap.get? h₂.objs.size with
    | none => rfl
    | some o => exact absurd (Heap.lt_size (hk2 _ _ e)) (Nat.lt_irrefl _)
  exact wpAny_bind (wpAny_newObj_type (wpAny_pure (h h₂ tk hk2 hle)))
end
def gStar (K : PySem.W.Frag) (t : TGs) : TG := fun v σ H Q => ∃ a x xs, v = .ref a ∧ SqL K H a (x :: xs) ∧ xs.length ≤ 16000 ∧ ∀ D, H D = none → t [x, .ref D] σ (upd H D (.lst xs)) Q
theorem pg_starL {X : Cx} {t0 t1 : Expr} {k : Nat} {t : TGs} {p pos : Pos} (hc : X.calm = true) (h : PGs X [t0, t1] t)
    (hn : (assignEach [t0, .Starred t1 p] X.env).length = 2 := by rfl) (hst : (assignEach [t0, .Starred t1 p] X.env).findIdx? (·.1) = some 1 := by rfl) (hm : (assignEach [t0, .Starred t1 p] X.env).map (·.2) = (assignEach [t0, t1] X.env).map (·.2) := by rfl) : PG X (.Tuple [t0, .Starred t1 p] k pos) (gStar X.K t) := by
  refine ⟨fun pins s σ H v u Q I r hw => ?_⟩
  obtain ⟨a, x, xs, e1, hq, hl, hw⟩ := hw
  subst e1
  cases r
  obtain ⟨its, rv, ht, hz⟩ := I.list hq
  rw [assign_Tuple]
  refine wpAny_bind (wpAny_standAt ?_)
  unfold unpack
  rw [hn, hst, hm]
  cases rv with
  | cons r0 rs =>
    have hlen := rs.length
    refine wpAny_bind (wpAny_holding (unpack_starL ht.isList rfl (I.ok.hd hc) (by simp; omega) fun h1 tk hk hn0 => ?_))
    have hD : H h1.objs.size = none := I.hok.gone hn0
    have I1 := I.laidN (t' := tk) (o := .lst xs) (fun b o e => Heap.get?_push_of_some { cls := .type "list", data := .seq _ } (hk b o e)) hn0 hD ⟨by rw [sizeLine_eq]; omega, _, 0, rs, Heap.get?_push_size _ rfl⟩
    exact h.run pins _ σ _ [x, .ref h1.objs.size] _ Q I1 (.cons r0 (.cons rfl .nil)) (hw _ hD)
end Eyes

set_option Elab.async false
set_option linter.all false
set_option maxRecDepth 100000
set_option maxHeartbeats 4000000
/-! Texts of worlds read: the number of cases, a row. -/
namespace Eyes
open PySem PySem.Spec PyProof.Rows L2 Evl TL
def casesS (m : Nat) : Str := Str.ofString "cases " ++ natS m
def idxS (kf : Nat → Str) : Nat → Str → Nat
  | 0, _ => 0
  | i + 1, t => if t = kf (i + 1) then i + 1 else idxS kf i t
theorem idxS_le {kf : Nat → Str} {t : Str} : ∀ {i : Nat}, idxS kf i t ≤ i
  | 0 => Nat.le_refl _
  | i + 1 => by
    unfold idxS
    split
    · exact Nat.le_refl _
    · exact Nat.le_succ_of_le idxS_le
def IdxD (H : Hp) (D : Addr) (kf : Nat → Str) (i : Nat) : Prop := ∃ kvs : List (L2.Key × V), H D = some (.dK kvs) ∧ kvs.length ≤ i ∧ ∀ t : Str, valV kvs (.inr t) = if idxS kf i t = 0 then none else some (V.int (idxS kf i t : Nat))
theorem IdxD.new {H : Hp} {D : Addr} {kf : Nat → Str} : IdxD (upd H D (.dK [])) D kf 0 := ⟨[], upd_same, Nat.le_refl _, fun _ => rfl⟩
theorem IdxD.mono {H H' : Hp} {D : Addr} {kf : Nat → Str} {i : Nat} (e : Ex H H') (h : IdxD H D kf i) : IdxD H' D kf i := by
  obtain ⟨kvs, h1, h2⟩ := h
  exact ⟨kvs, e _ _ h1, h2⟩
theorem IdxD.next {H : Hp} {D : Addr} {kf : Nat → Str} {i : Nat} {kvs : List (L2.Key × V)} (h2 : kvs.length ≤ i) (h3 : ∀ t : Str, valV kvs (.inr t) = if idxS kf i t = 0 then none else some (V.int (idxS kf i t : Nat))) : IdxD (upd H D (.dK (putK kvs (.inr (kf (i + 1))) (.int ((i + 1 : Nat) : Int))))) D kf (i + 1) := by
  refine ⟨_, upd_same, Nat.le_trans (length_putK ..) (by omega), fun t => ?_⟩
  rw [valV_put]
  show _ = if (if t = kf (i + 1) then i + 1 else idxS kf i t) = 0 then none else some (V.int ((if t = kf (i + 1) then i + 1 else idxS kf i t : Nat) : Int))
  by_cases e : t = kf (i + 1)
  · rw [if_pos (congrArg Sum.inr e), if_pos e, if_neg (Nat.succ_ne_zero i)]
  · rw [if_neg fun z => e (Sum.inr.inj z), if_neg e]
    exact h3 t
theorem IdxD.get {H : Hp} {D : Addr} {kf : Nat → Str} {i : Nat} (h : IdxD H D kf i) (t : Str) : IsD H D ∧ ∃ o, DGet H D (.str t) o ∧ o.getD (V.int 0) = V.int (idxS kf i t : Nat) := by
  obtain ⟨kvs, h1, h2, h3⟩ := h
  refine ⟨.inl ⟨_, .inl h1⟩, _, DGet.k (k := .inr t) h1, ?_⟩
  rw [h3 t]
  by_cases e : idxS kf i t = 0
  · rw [if_pos e, e]
    rfl
  · rw [if_neg e]
    rfl
def spReadMany : Sp := fun vs H Q _ => ∃ t : Str, vs = [.str t] ∧ ∀ H', Ex H H' → Q (.int (idxS casesS 2400 t : Nat)) H'
def spReadRow : Sp := fun vs H Q _ => ∃ (t : Str) (n : Nat), vs = [.str t, .int (n : Int)] ∧ n ≤ 2400 ∧ t.length ≤ 15000 ∧ ∀ x xs, Txt.split t (Str.ofString " ") = x :: xs → ∀ p r H', Ex H H' → H' p = some (.tup [.str x, .ref r]) → H' r = some (.tup (nvs (xs.map (idxS natS n)))) → Q (.ref p) H'
section
variable {P : Program} {w : World} {K : PySem.W.Frag} {mg : Str → Option Value} {base : Heap} {AA : Adr}
theorem ok_read_many (T : Txt K mg AA) : Pr P w K mg base "read_many" s_read_many p_read_many 3 spReadMany := by
  refine pr_mk T.f_read_many sc_read_many (fun vs H Q E h => ?_) (fun f cdv A outer s H vs Q E hr h => ?_)
  · obtain ⟨t, rfl, _⟩ := h
    rfl
  · obtain ⟨t, rfl, q⟩ := h
    refine ⟨_, (pss_one (ps_ret (pe_dget2 (hu_of hr) (pe_dc (own := [("many", 1)]) (g := gName 1) (tt := tYes) rfl sc_read_many.nd (pi_range2 (by rfl) T.n_range (pa_cons pe_int (pa_cons (pe_op op_add (ClX.pe_cval (pe_glob (v := .ref AA.World) (by rfl) T.m_World rfl)) pe_int) pa_nil))) (blkOk_by (own := [("many", 1)]) (N := n_read_many) (sc := defScope s_read_many) (by decide +kernel)) (fun _ _ _ _ _ => (pg_name (i := 1) sc_read_many.nd rfl (.inl rfl))) (fun _ _ _ _ _ => pts_nil) (fun _ _ _ _ _ => (pe_joined (PJ.cons pe_str (PJ.cons (pe_fmt (pv 1)) PJ.nil)))) (fun _ _ _ _ _ => (pv 1))) (pv 0) pe_int ⟨by rfl, by rfl, by rfl, by rfl⟩))), ?_⟩
    obtain ⟨tk, hcr, hcv⟩ := T.k_World_LIMIT
    have e1 : (Str.ofString "cases ").length = 6 := by decide +kernel
    have big : 16777216 ≤ sizeLine := by rw [sizeLine_eq]; decide
    refine ⟨AA.World, _, _, _, rfl, hcr, hcv, _, _, rfl, rfl, _, _, rfl, ⟨by decide, by decide, by decide, by decide⟩, fun D hD => ?_⟩
    rw [show ((2400 : Int) + 1 - 1).toNat = 2400 from rfl]
    refine dc_by (tk := fun σ H Q => tJs [tC (V.str (Str.ofString "cases ")), tFmt (tVar 1)] Str.empty σ H fun out H1 => Q (V.str out) H1) walk_range (fun i H' => Ex H H' ∧ IdxD H' D casesS i) ⟨Ex.new hD, IdxD.new⟩ (fun _ _ _ _ => True.intro) (fun i z H3 H4 hi hp hy => ?_) (fun H' hp => ?_)
    · obtain ⟨rfl, rfl⟩ := hy
      obtain ⟨x3, kvs, h1, h2, h3⟩ := hp
      have hi : i < 2400 := hi
      have hc : (1 : Int) + (i : Nat) = ((i + 1 : Nat) : Int) := by omega
      dsimp only
      rw [hc]
      have hl := natS_len (n := i + 1) (by omega)
      refine ⟨rfl, _, rfl, by rw [empty_app]; omega, _, rfl, .inr ⟨i + 1, rfl, natS_log (n := i + 1) (by omega), natS (i + 1), rfl, ?_, ?_⟩⟩
      · rw [empty_app, Str.length_append]
        omega
      · rw [empty_app]
        exact ⟨_, rfl, kvs, .inr (casesS (i + 1)), rfl, h1, by omega, x3.mut hD, IdxD.next h2 h3⟩
    · obtain ⟨x3, hI⟩ := hp
      obtain ⟨d1, o, d2, d3⟩ := hI.get t
      refine ⟨D, rfl, d1, _, rfl, o, d2, ?_⟩
      rw [d3]
      exact q H' x3
theorem ok_read_parting (T : Txt K mg AA) : Pr P w K mg base "read_parting" s_read_parting p_read_parting 3 spReadRow := by
  refine pr_mk T.f_read_parting sc_read_parting (fun vs H Q E h => ?_) (fun f cdv A outer s H vs Q E hr h => ?_)
  · obtain ⟨t, n, rfl, _⟩ := h
    rfl
  · obtain ⟨t, n, rfl, hn, ht, q⟩ := h
    refine ⟨_, (pss_cons (ps_set (i := 2) sc_read_parting.nd rfl (.inr rfl) (pe_dc (own := [("case", 5)]) (g := gName 5) (tt := tYes) rfl sc_read_parting.nd (pi_range2 (by rfl) T.n_range (pa_cons pe_int (pa_cons (pe_op op_add (pv 1) pe_int) pa_nil))) (blkOk_by (own := [("case", 5)]) (N := n_read_parting) (sc := defScope s_read_parting) (by decide +kernel)) (fun _ _ _ _ _ => (pg_name (i := 5) sc_read_parting.nd rfl (.inl rfl))) (fun _ _ _ _ _ => pts_nil) (fun _ _ _ _ _ => (pe_callTy call_str_int (by rfl) T.n_str PyProof.Rows.boot_str (pa_cons (pv 5) pa_nil))) (fun _ _ _ _ _ => (pv 5))))
      (pss_cons (ps_asg (pe_split (pv 0) pe_str) (pg_starL (by rfl) (pgs_cons (pg_name (i := 3) sc_read_parting.nd rfl (.inl rfl)) (pgs_cons (pg_name (i := 4) sc_read_parting.nd rfl (.inl rfl)) pgs_nil))))
      (pss_one (ps_ret (pe_tup (pa_cons (pv 3) (pa_cons (pe_callTy call_tuple_of (by rfl) T.n_tuple PyProof.Rows.boot_tuple (pa_cons (pe_lc (own := [("word", 6)]) (g := gName 6) (tt := tYes) rfl sc_read_parting.nd (pi_list (pv 4)) (blkOk_by (own := [("word", 6)]) (N := n_read_parting) (sc := defScope s_read_parting) (by decide +kernel)) (fun _ _ _ _ _ => (pg_name (i := 6) sc_read_parting.nd rfl (.inl rfl))) (fun _ _ _ _ _ => pts_nil) (fun _ _ _ _ _ => (pe_dget2 (hu_of hr) (pv 2) (pv 6) pe_int ⟨by rfl, by rfl, by rfl, by rfl⟩))) pa_nil)) pa_nil))))))), ?_⟩
    have big : 16777216 ≤ sizeLine := by rw [sizeLine_eq]; decide
    refine ⟨_, rfl, _, _, rfl, rfl, _, _, rfl, ⟨by omega, by omega, by omega, by omega⟩, fun D hD => ?_⟩
    rw [show ((n : Int) + 1 - 1).toNat = n by omega]
    refine dc_by walk_range (fun i H' => Ex H H' ∧ IdxD H' D natS i) ⟨Ex.new hD, IdxD.new⟩ (fun _ _ _ _ => True.intro) (fun i z H3 H4 hi hp hy => ?_) (fun H3 hp => ?_)
    · obtain ⟨rfl, rfl⟩ := hy
      obtain ⟨x3, kvs, h1, h2, h3⟩ := hp
      have hc : (1 : Int) + (i : Nat) = ((i + 1 : Nat) : Int) := by omega
      dsimp only
      rw [hc]
      exact ⟨rfl, _, rfl, _, rfl, natS_log (n := i + 1) (by omega), _, rfl, kvs, .inr (natS (i + 1)), rfl, h1, by omega, x3.mut hD, IdxD.next h2 h3⟩
    obtain ⟨x3, hI⟩ := hp
    have hpos := PyProof.Rows.split_pos t (Str.ofString " ")
    have hle := PyProof.Rows.split_le t (Str.ofString " ")
    obtain ⟨x, xs, hs⟩ : ∃ x xs, Txt.split t (Str.ofString " ") = x :: xs := by
      match Txt.split t (Str.ofString " "), hpos with
      | x :: xs, _ => exact ⟨x, xs, rfl⟩
    rw [hs, List.length_cons] at hle
    refine ⟨_, rfl, ⟨t, rfl⟩, t, Str.ofString " ", rfl, rfl, by decide +kernel, by omega, fun L hL => ?_⟩
    rw [hs]
    have e4 := Ex.new (o := .lst ((x :: xs).map V.str)) hL
    have hL4 := upd_same (H := H3) (a := L) (o := HO.lst ((x :: xs).map V.str))
    generalize upd H3 L _ = H4 at e4 hL4 ⊢
    refine ⟨L, .str x, xs.map V.str, rfl, sq_of hL4, by rw [List.length_map]; omega, fun D2 hD2 => ?_⟩
    have e5 := Ex.new (o := .lst (xs.map V.str)) hD2
    have hD5 := upd_same (H := H4) (a := D2) (o := HO.lst (xs.map V.str))
    generalize upd H4 D2 _ = H5 at e5 hD5 ⊢
    have hI5 := hI.mono (e4.trans e5)
    refine ⟨_, _, rfl, _, _, rfl, rfl, _, rfl, _, rfl, D2, rfl, ⟨_, sq_of hD5⟩, fun B hB => lc_it (walk_list (xs := xs.map V.str)) (fun i H' => Ex H5 H' ∧ H5 B = none ∧ H' B = some (.lst (nvs ((xs.take i).map (idxS natS n))))) ⟨Ex.new hB, hB, upd_same⟩ (fun _ _ _ hp => sq_of (hp.1 _ _ hD5)) (fun i u H6 H7 hi hp hy => ?_) (fun H6 hp => ?_)⟩
    · obtain ⟨rfl, hu⟩ := hy
      obtain ⟨x6, hB0, h6⟩ := hp
      rw [List.length_map] at hi
      rw [List.getElem?_map] at hu
      obtain ⟨wd, hw, rfl⟩ := Option.map_eq_some_iff.mp hu
      obtain ⟨d1, o, d2, d3⟩ := (hI5.mono x6).get wd
      refine ⟨rfl, _, rfl, D, rfl, d1, _, rfl, o, d2, ?_⟩
      rw [d3]
      refine ⟨_, h6, ?_, x6.mut hB0, hB0, ?_⟩
      · rw [nvs_len, List.length_map, List.length_take]
        omega
      · rw [upd_same, List.take_add_one, hw, List.map_append]
        unfold nvs
        rw [List.map_append]
        rfl
    obtain ⟨x6, hB0, h6⟩ := hp
    rw [List.length_map, List.take_length] at h6
    refine ⟨B, _, rfl, .inl ⟨sq_of h6, fun r hr => ?_⟩⟩
    have e7 := Ex.new (o := .tup (nvs (xs.map (idxS natS n)))) hr
    have hr7 := upd_same (H := H6) (a := r) (o := HO.tup (nvs (xs.map (idxS natS n))))
    generalize upd H6 r _ = H7 at e7 hr7 ⊢
    refine ⟨by show 2 ≤ sizeLine; decide, fun p hp => ?_⟩
    exact q x xs hs p r _ ((x3.trans (e4.trans (e5.trans (x6.trans e7)))).trans (Ex.new hp)) upd_same (Ex.new hp _ _ hr7)
end
end Eyes

set_option Elab.async false
set_option linter.all false
set_option maxRecDepth 100000
set_option maxHeartbeats 4000000
/-! The text of a world, split. -/
namespace Eyes
open PySem PySem.Spec PyProof.Rows L2 Evl TL
theorem natS_tl (m : Nat) : tl (natS m) = (Nat.toDigits 10 m).map Char.toNat := PySem.W.KIN.signs_num m
theorem natS_inj {a b : Nat} (h : natS a = natS b) : a = b := by
  have e := congrArg tl h
  rw [natS_tl, natS_tl] at e
  have e2 := congrArg PySem.NumText.digitsVal e
  rw [PySem.W.KIN.val_back, PySem.W.KIN.val_back] at e2
  exact e2
theorem natS_digit {m c : Nat} (h : c ∈ tl (natS m)) : 48 ≤ c ∧ c ≤ 57 := by
  rw [natS_tl] at h
  obtain ⟨ch, hch, rfl⟩ := List.mem_map.mp h
  exact PyProof.Rows.digit_range (Nat.isDigit_of_mem_toDigits (by decide) (by decide) hch)
theorem idxS_at {kf : Nat → Str} (inj : ∀ a b, kf a = kf b → a = b) {m : Nat} (h1 : 1 ≤ m) : ∀ {i : Nat}, m ≤ i → idxS kf i (kf m) = m
  | 0, h => absurd h (by omega)
  | i + 1, h => by
    unfold idxS
    by_cases e : m = i + 1
    · rw [if_pos (by rw [e]), e]
    · rw [if_neg fun z => e (inj _ _ z)]
      exact idxS_at inj h1 (by omega)
theorem casesS_inj (a b : Nat) (h : casesS a = casesS b) : a = b := by
  have e := congrArg tl h
  unfold casesS at e
  rw [tl_append, tl_append] at e
  exact natS_inj (TL.ext_tl (List.append_cancel_left e))
def lineS (t : Str) (p : List Nat) : Str := Txt.join (Str.ofString " ") (t :: p.map natS)
theorem joinL_end (s : List Nat) : ∀ ls : List (List Nat), joinL s (ls ++ [[]]) = (ls.map fun l => l ++ s).flatten
  | [] => rfl
  | [p] => by
    show p ++ (s ++ []) = (p ++ s) ++ []
    simp
  | p :: q :: r => by
    show p ++ (s ++ joinL s (q :: r ++ [[]])) = (p ++ s) ++ ((q :: r).map fun l => l ++ s).flatten
    rw [joinL_end s (q :: r), List.append_assoc]
theorem rowS_line {t : Str} {p : List Nat} (h : p ≠ []) : tl (rowS t p) = tl (lineS t p) ++ tl (Str.ofString "\n") := by
  obtain ⟨x, r, rfl⟩ := List.exists_cons_of_ne_nil h
  unfold rowS lineS
  rw [tl_append, TL.join_eq, TL.join_eq, tl_append, tl_append, tl_join, tl_join]
  show _ = (tl t ++ (tl (Str.ofString " ") ++ joinL (tl (Str.ofString " ")) (((x :: r).map natS).map tl))) ++ _
  rw [List.append_assoc (tl t)]
theorem chap_split {n : Nat} {f : Vw} (hp : ∀ e ∈ f, e.2 ≠ []) : chapS n f = Txt.join (Str.ofString "\n") ((casesS n :: f.map fun e => lineS e.1 e.2) ++ [Str.ofString ""]) := by
  refine ext_tl ?_
  have e0 : tl (Str.ofString "") = [] := rfl
  rw [TL.join_eq, tl_join, List.map_append]
  show _ = joinL _ ((casesS n :: f.map fun e => lineS e.1 e.2).map tl ++ [[]])
  rw [joinL_end]
  unfold chapS
  rw [tl_append, TL.join_eq, tl_join, e0, joinL_nil, List.map_cons, List.map_cons, List.flatten_cons, List.map_map, List.map_map, List.map_map]
  congr 1
  · unfold headS casesS
    rw [tl_append]
  · refine congrArg List.flatten (List.map_congr_left fun e he => ?_)
    exact rowS_line (hp e he)
theorem nm_no {t : Str} (h : nm t) {c : Nat} (hc : c ∈ tl t) : c ≠ 10 ∧ c ≠ 32 := by
  have := h.2.2 c hc
  omega
theorem line_split {t : Str} {p : List Nat} (h : nm t) : Txt.split (lineS t p) (Str.ofString " ") = t :: p.map natS := by
  refine split_join (y := Str.ofString " ") (s := 32) (S := []) rfl (by decide +kernel) (List.cons_ne_nil _ _) fun q hq hc => ?_
  rcases List.mem_cons.mp hq with rfl | hq
  · exact (nm_no h hc).2 rfl
  · obtain ⟨x, _, rfl⟩ := List.mem_map.mp hq
    have := natS_digit hc
    omega
theorem mem_joinL {s : List Nat} {c : Nat} : ∀ {ls : List (List Nat)}, c ∈ joinL s ls → c ∈ s ∨ ∃ l ∈ ls, c ∈ l
  | [], h => absurd h (by intro z; cases z)
  | [p], h => .inr ⟨p, .head _, h⟩
  | p :: q :: r, h => by
    have h : c ∈ p ++ (s ++ joinL s (q :: r)) := h
    rcases List.mem_append.mp h with h | h
    · exact .inr ⟨p, .head _, h⟩
    · rcases List.mem_append.mp h with h | h
      · exact .inl h
      · rcases mem_joinL h with h | ⟨l, hl, h⟩
        · exact .inl h
        · exact .inr ⟨l, .tail _ hl, h⟩
theorem line_no {t : Str} {p : List Nat} (h : nm t) {c : Nat} (hc : c ∈ tl (lineS t p)) : c ≠ 10 := by
  unfold lineS at hc
  rw [TL.join_eq, tl_join] at hc
  rcases mem_joinL hc with hc | ⟨l, hl, hd⟩
  · have e : tl (Str.ofString " ") = [32] := rfl
    rw [e] at hc
    have := List.mem_singleton.mp hc
    omega
  · obtain ⟨q, hq, rfl⟩ := List.mem_map.mp hl
    rcases List.mem_cons.mp hq with rfl | hq
    · exact (nm_no h hd).1
    · obtain ⟨x, _, rfl⟩ := List.mem_map.mp hq
      have := natS_digit hd
      omega
theorem cases_no {n c : Nat} (hc : c ∈ tl (casesS n)) : c ≠ 10 := by
  unfold casesS at hc
  rw [tl_append] at hc
  rcases List.mem_append.mp hc with hc | hc
  · have e : tl (Str.ofString "cases ") = [99, 97, 115, 101, 115, 32] := by decide +kernel
    rw [e] at hc
    simp only [List.mem_cons, List.not_mem_nil, or_false] at hc
    omega
  · have := natS_digit hc
    omega
theorem chap_lines {n : Nat} {f : Vw} (hp : ∀ e ∈ f, nm e.1 ∧ e.2 ≠ []) : Txt.split (chapS n f) (Str.ofString "\n") = casesS n :: ((f.map fun e => lineS e.1 e.2) ++ [Str.ofString ""]) := by
  rw [chap_split fun e he => (hp e he).2]
  refine split_join (y := Str.ofString "\n") (s := 10) (S := []) rfl (by decide +kernel) (List.cons_ne_nil _ _) fun q hq hc => ?_
  rcases List.mem_append.mp hq with hq | hq
  · rcases List.mem_cons.mp hq with rfl | hq
    · exact cases_no hc rfl
    · obtain ⟨e, he, rfl⟩ := List.mem_map.mp hq
      exact line_no (hp e he).1 hc rfl
  · rw [List.mem_singleton.mp hq] at hc
    cases hc
theorem ltC_iff : ∀ a b : List Nat, ltCps a b = decide (a < b)
  | [], [] => rfl
  | [], _ :: _ => (decide_eq_true (List.nil_lt_cons _ _)).symm
  | _ :: _, [] => (decide_eq_false (List.not_lt_nil _)).symm
  | x :: a, y :: b => by
    show (decide (x < y) || (x == y && ltCps a b)) = _
    rw [ltC_iff a b, Bool.eq_iff_iff, decide_eq_true_iff, List.cons_lt_cons_iff]
    simp
end Eyes

set_option Elab.async false
set_option linter.all false
set_option maxRecDepth 100000
set_option maxHeartbeats 4000000
/-! What is_name judges good is a name. -/
namespace Eyes
open PySem PySem.Spec PyProof.Rows L2 Evl TL
theorem name_nm {n : Str} (h : nameS n = true) : nm n := by
  unfold nameS at h
  obtain ⟨h1, h3⟩ := Bool.and_eq_true_iff.mp h
  obtain ⟨h1, h2⟩ := Bool.and_eq_true_iff.mp h1
  refine ⟨of_decide_eq_true h1, of_decide_eq_true h2, fun c hc => ?_⟩
  have h4 := of_decide_eq_true (List.all_eq_true.mp h3 c hc)
  have h5 : letters.cps.toList = (List.range 26).map (· + 97) := by decide +kernel
  rw [h5, List.mem_map] at h4
  obtain ⟨k, hk, e⟩ := h4
  rw [List.mem_range] at hk
  omega
end Eyes

set_option Elab.async false
set_option linter.all false
set_option maxRecDepth 100000
set_option maxHeartbeats 4000000
/-! Texts of worlds, any: numbers, heads and rows as the law takes them. -/
namespace Eyes
open PySem PySem.Spec PyProof.Rows L2 Evl TL
open PySem.NumText (digitsVal)
theorem idxS_kf {kf : Nat → Str} {t : Str} : ∀ {i : Nat}, idxS kf i t ≠ 0 → kf (idxS kf i t) = t
  | 0, h => absurd rfl h
  | i + 1, h => by
    unfold idxS at h ⊢
    by_cases e : t = kf (i + 1)
    · rw [if_pos e]
      exact e.symm
    · rw [if_neg e] at h ⊢
      exact idxS_kf h
theorem idxS_no {kf : Nat → Str} {t : Str} {i : Nat} (h : ∀ m, 1 ≤ m → m ≤ i → kf m ≠ t) : idxS kf i t = 0 := by
  refine Decidable.byContradiction fun e => ?_
  exact h _ (Nat.pos_of_ne_zero e) idxS_le (idxS_kf e)
theorem idxS_few {kf : Nat → Str} (inj : ∀ a b, kf a = kf b → a = b) {n i : Nat} (h : n ≤ i) (t : Str) : idxS kf n t = if idxS kf i t ≤ n then idxS kf i t else 0 := by
  by_cases e : idxS kf i t = 0
  · rw [e, if_pos (Nat.zero_le n)]
    refine idxS_no fun m h1 h2 z => ?_
    rw [← z, idxS_at inj h1 (by omega)] at e
    omega
  · have hk := idxS_kf e
    by_cases hn : idxS kf i t ≤ n
    · rw [if_pos hn]
      have := idxS_at inj (Nat.pos_of_ne_zero e) hn
      rw [hk] at this
      exact this
    · rw [if_neg hn]
      refine idxS_no fun m h1 h2 z => ?_
      rw [← z, idxS_at inj h1 (by omega)] at hn
      omega
theorem chars_back {cs : List Nat} (h : ∀ c ∈ cs, 48 ≤ c ∧ c ≤ 57) : (cs.map Char.ofNat).map Char.toNat = cs := by
  rw [List.map_map]
  refine (List.map_congr_left fun c hc => ?_).trans (List.map_id cs)
  have := h c hc
  show (Char.ofNat c).toNat = c
  have hv : c.isValidChar := .inl (by omega)
  unfold Char.ofNat
  rw [dif_pos hv]
  rfl
theorem natS_digits {w : Str} (h0 : tl w ≠ []) (h : ∀ c ∈ tl w, 48 ≤ c ∧ c ≤ 57) (hz : (tl w).head? ≠ some 48) : natS (digitsVal (tl w)) = w := by
  refine TL.ext_tl ?_
  rw [natS_tl]
  obtain ⟨c, r, e⟩ := List.exists_cons_of_ne_nil h0
  have hc : 49 ≤ c := by
    have := h c (by rw [e]; exact .head _)
    rw [e] at hz
    have : c ≠ 48 := fun z => hz (by rw [z]; rfl)
    omega
  rw [PySem.NumText.toDigits_digitsVal r.length (tl w) (by rw [e]; rfl) h (.inr ⟨c, r, e, hc⟩)]
  exact chars_back h
theorem digits_head : ∀ (k m : Nat), m ≤ k → 1 ≤ m → ((Nat.toDigits 10 m).map Char.toNat).head? ≠ some 48
  | 0, m, h, h1 => absurd h1 (by omega)
  | k + 1, m, h, h1 => by
    by_cases hm : m < 10
    · rw [Nat.toDigits_of_lt_base hm]
      have : ∀ m, m < 10 → 1 ≤ m → ([m.digitChar].map Char.toNat).head? ≠ some 48 := by decide
      exact this m hm h1
    · rw [Nat.toDigits_of_base_le (by decide) (by omega), List.map_append]
      have ih := digits_head k (m / 10) (by omega) (by omega)
      cases e : (Nat.toDigits 10 (m / 10)).map Char.toNat with
      | nil =>
        have hv := PySem.W.KIN.val_back (m / 10)
        rw [e] at hv
        have : digitsVal [] = 0 := rfl
        omega
      | cons c r =>
        rw [e] at ih
        exact ih
theorem natS_head {m : Nat} (h : 1 ≤ m) : tl (natS m) ≠ [] ∧ (tl (natS m)).head? ≠ some 48 := by
  have hv : digitsVal (tl (natS m)) = m := by
    rw [natS_tl]
    exact PySem.W.KIN.val_back m
  refine ⟨fun e => ?_, by rw [natS_tl]; exact digits_head m m (Nat.le_refl _) h⟩
  rw [e] at hv
  have : digitsVal [] = 0 := rfl
  omega
theorem many_yes {w : Str} (h0 : tl w ≠ []) (h : ∀ c ∈ tl w, 48 ≤ c ∧ c ≤ 57) (hz : (tl w).head? ≠ some 48) : idxS natS 2400 w = if digitsVal (tl w) ≤ 2400 then digitsVal (tl w) else 0 := by
  have e := natS_digits h0 h hz
  obtain ⟨c, r, e0⟩ := List.exists_cons_of_ne_nil h0
  have hc : 49 ≤ c := by
    have := h c (by rw [e0]; exact .head _)
    rw [e0] at hz
    have : c ≠ 48 := fun z => hz (by rw [z]; rfl)
    omega
  have hp : 0 < digitsVal (tl w) := by
    rw [e0]
    exact PySem.NumText.digitsVal_pos hc
  split
  · have := idxS_at (kf := natS) (fun _ _ => natS_inj) (m := digitsVal (tl w)) hp (i := 2400) (by assumption)
    rw [e] at this
    exact this
  · rename_i hbig
    refine idxS_no fun m h1 h2 z => hbig ?_
    rw [← z, natS_tl, PySem.W.KIN.val_back]
    exact h2
theorem many_no {w : Str} (h : tl w = [] ∨ 4 < (tl w).length ∨ (tl w).head? = some 48 ∨ ∃ c ∈ tl w, ¬ (48 ≤ c ∧ c ≤ 57)) : idxS natS 2400 w = 0 := by
  refine idxS_no fun m h1 h2 z => ?_
  rw [← z] at h
  have hh := natS_head h1
  rcases h with h | h | h | ⟨c, hc, h⟩
  · exact hh.1 h
  · have := natS_len (n := m) (by omega)
    rw [len_tl] at this
    have h4 : (tl (natS m)).length ≤ 4 := by
      rw [natS_tl, List.length_map]
      exact PyProof.Rows.digits10_le (by decide) (by omega)
    omega
  · exact hh.2 h
  · exact h (natS_digit hc)
/-! ### the head -/
theorem sp_free {m : Nat} : 32 ∉ tl (natS m) := fun h => by
  have := natS_digit h
  omega
theorem cases_split (m : Nat) : Txt.split (casesS m) (Str.ofString " ") = [Str.ofString "cases", natS m] := by
  have e : casesS m = Txt.join (Str.ofString " ") [Str.ofString "cases", natS m] := by
    refine ext_tl ?_
    unfold casesS
    rw [tl_append, TL.join_eq, tl_join]
    show _ = tl (Str.ofString "cases") ++ (tl (Str.ofString " ") ++ tl (natS m))
    rw [← List.append_assoc]
    congr 1
  rw [e]
  refine split_join (y := Str.ofString " ") (s := 32) (S := []) rfl (by decide +kernel) (List.cons_ne_nil _ _) fun q hq hc => ?_
  simp only [List.mem_cons, List.not_mem_nil, or_false] at hq
  rcases hq with rfl | rfl
  · revert hc
    decide +kernel
  · exact sp_free hc
theorem join_back (x : Str) (y : Str) : Txt.join y (Txt.split x y) = x := by
  rw [TL.join_eq]
  exact PySem.StrLaws.join_split x y
theorem head_law (t : Str) : idxS casesS 2400 t = match Txt.split t (Str.ofString " ") with
    | [a, w] => if a = Str.ofString "cases" then idxS natS 2400 w else 0
    | _ => 0 := by
  have no : (∀ m, 1 ≤ m → m ≤ 2400 → Txt.split t (Str.ofString " ") ≠ [Str.ofString "cases", natS m]) → idxS casesS 2400 t = 0 := fun h => idxS_no fun m h1 h2 z => h m h1 h2 (by rw [← z]; exact cases_split m)
  match hs : Txt.split t (Str.ofString " ") with
  | [] => exact no fun m _ _ z => by rw [hs] at z; cases z
  | [a] => exact no fun m _ _ z => by rw [hs] at z; cases z
  | a :: b :: c :: r => exact no fun m _ _ z => by rw [hs] at z; cases z
  | [a, w] =>
    show _ = if a = Str.ofString "cases" then idxS natS 2400 w else 0
    by_cases ha : a = Str.ofString "cases"
    · rw [if_pos ha]
      subst ha
      by_cases hw : idxS natS 2400 w = 0
      · rw [hw]
        refine no fun m h1 h2 z => ?_
        rw [hs] at z
        have z := (List.cons.inj (List.cons.inj z).2).1
        rw [z, idxS_at (fun _ _ => natS_inj) h1 h2] at hw
        omega
      · have hk := idxS_kf hw
        have e : t = casesS (idxS natS 2400 w) := by
          rw [← join_back t (Str.ofString " "), hs, ← join_back (casesS _) (Str.ofString " "), cases_split, hk]
        have := idxS_at casesS_inj (Nat.pos_of_ne_zero hw) (i := 2400) idxS_le
        rw [← e] at this
        exact this
    · rw [if_neg ha]
      exact no fun m _ _ z => by
        rw [hs] at z
        exact ha (List.cons.inj z).1
/-! ### rows -/
def isPB (xs : List Nat) : Bool := decide (xs ≠ []) && (List.range xs.length).all fun k => decide (1 ≤ itm xs (k + 1) ∧ itm xs (k + 1) ≤ k + 1 ∧ itm xs (itm xs (k + 1)) = itm xs (k + 1))
theorem isPB_iff {xs : List Nat} : isPB xs = true ↔ xs ≠ [] ∧ IsP xs.length xs := by
  unfold isPB
  rw [Bool.and_eq_true, decide_eq_true_iff, List.all_eq_true]
  refine and_congr_right fun _ => ⟨fun h => ⟨rfl, fun x h1 h2 => ?_, fun x h1 h2 => ?_⟩, fun h k hk => ?_⟩
  · have := of_decide_eq_true (h (x - 1) (List.mem_range.mpr (by omega)))
    rw [Nat.sub_add_cancel h1] at this
    exact ⟨this.1, this.2.1⟩
  · have := of_decide_eq_true (h (x - 1) (List.mem_range.mpr (by omega)))
    rw [Nat.sub_add_cancel h1] at this
    exact this.2.2
  · have hk := List.mem_range.mp hk
    have lo := h.lo (k + 1) (by omega) (by omega)
    exact decide_eq_true ⟨lo.1, lo.2, h.rt (k + 1) (by omega) (by omega)⟩
theorem isPB_in {n : Nat} {xs : List Nat} (hl : xs.length = n) (h : isPB xs = true) {x : Nat} (hx : x ∈ xs) : 1 ≤ x ∧ x ≤ n := by
  obtain ⟨_, hP⟩ := isPB_iff.mp h
  obtain ⟨i, hi, rfl⟩ := List.getElem_of_mem hx
  have lo := hP.lo (i + 1) (by omega) (by omega)
  have e := itm_get (p := xs) (x := i + 1) (by omega) (by omega)
  rw [Nat.add_sub_cancel, List.getElem?_eq_getElem hi] at e
  rw [Option.some.inj e]
  omega
theorem row_same {n : Nat} (hn : n ≤ 2400) {ws : List Str} (h : (ws.map (idxS natS n)).length = n ∧ isPB (ws.map (idxS natS n)) = true ∨ (ws.map (idxS natS 2400)).length = n ∧ isPB (ws.map (idxS natS 2400)) = true) : ws.map (idxS natS n) = ws.map (idxS natS 2400) := by
  refine List.map_congr_left fun w hw => ?_
  rw [idxS_few (kf := natS) (fun _ _ => natS_inj) hn w]
  rcases h with ⟨h1, h2⟩ | ⟨h1, h2⟩
  · have := (isPB_in h1 h2 (List.mem_map.mpr ⟨w, hw, rfl⟩)).1
    rw [idxS_few (kf := natS) (fun _ _ => natS_inj) hn w] at this
    split at this
    · rw [if_pos (by assumption)]
    · omega
  · rw [if_pos (isPB_in h1 h2 (List.mem_map.mpr ⟨w, hw, rfl⟩)).2]
theorem ndats_inj {p q : List Nat} (h : ndats p = ndats q) : p = q := by
  unfold ndats at h
  exact (List.map_inj_right fun x y e => Int.ofNat.inj (PyData.int.inj e)).mp h
theorem partD_nat (xs : List Nat) : partD (.tuple (ndats xs)) = isPB xs := by
  rw [Bool.eq_iff_iff]
  constructor
  · intro h
    obtain ⟨p, e, h1, h2⟩ := partD_isP h
    rw [ndats_inj (PyData.tuple.inj e)]
    exact isPB_iff.mpr ⟨fun z => by rw [z] at h1; exact absurd h1 (by decide), h2⟩
  · intro h
    obtain ⟨h1, h2⟩ := isPB_iff.mp h
    exact partD_of h2 (List.length_pos_iff.mpr h1)
/-! ### a text -/
def rowW (n : Nat) (line : Str) : Option (Str × List Nat) := match Txt.split line (Str.ofString " ") with
  | x :: ws => if nameK (.s x) = true ∧ (ws.map (idxS natS n)).length = n ∧ isPB (ws.map (idxS natS n)) = true ∧ ws.map (idxS natS n) ≠ alone n then some (x, ws.map (idxS natS n)) else none
  | [] => none
def rdRows (n : Nat) : List Str → Str → Nat → Vw → Nat ⊕ Vw
  | [], _, _, f => .inr f
  | line :: r, ah, k, f => match rowW n line with
    | some (x, p) => if ah.cps.toList < x.cps.toList then rdRows n r x (k + 1) (f ++ [(x, p)]) else .inl k
    | none => .inl k
def rdW (t : Str) : Nat ⊕ (Nat × Vw) := match Txt.split t (Str.ofString "\n") with
  | first :: lines =>
    if idxS casesS 2400 first = 0 ∨ lines = [] then .inl 0
    else match rdRows (idxS casesS 2400 first) lines.dropLast Str.empty 1 [] with
      | .inl k => .inl k
      | .inr f => if lines.getLastD Str.empty = Str.empty then .inr (idxS casesS 2400 first, f) else .inl lines.length
  | [] => .inl 0
theorem rowW_of {n : Nat} {line x : Str} {p : List Nat} (h : rowW n line = some (x, p)) : nm x ∧ IsP n p ∧ p ≠ alone n := by
  unfold rowW at h
  split at h
  · rename_i y ws hs
    split at h
    · rename_i hc
      obtain ⟨c1, c2, c3, c4⟩ := hc
      cases h
      have := (isPB_iff.mp c3).2
      rw [c2] at this
      exact ⟨name_nm c1, this, c4⟩
    · cases h
  · cases h
structure RdF (n : Nat) (ah : Str) (f : Vw) : Prop where
  nm : ∀ e ∈ f, Eyes.nm e.1
  P : ∀ e ∈ f, IsP n e.2 ∧ e.2 ≠ alone n
  lt : (f.map (·.1)).Pairwise fun a b => a.cps.toList < b.cps.toList
  le : ∀ e ∈ f, e.1.cps.toList < ah.cps.toList ∨ e.1 = ah
theorem RdF.nil {n : Nat} {ah : Str} : RdF n ah [] := ⟨fun e he => (nomatch he), fun e he => (nomatch he), .nil, fun e he => (nomatch he)⟩
theorem RdF.snoc {n : Nat} {ah x : Str} {p : List Nat} {f : Vw} (h : RdF n ah f) (hx : Eyes.nm x) (hp : IsP n p ∧ p ≠ alone n) (hl : ah.cps.toList < x.cps.toList) : RdF n x (f ++ [(x, p)]) := by
  have hlt : ∀ e ∈ f, e.1.cps.toList < x.cps.toList := fun e he => by
    rcases h.le e he with h | h
    · exact List.lt_trans h hl
    · rw [h]
      exact hl
  refine ⟨fun e he => ?_, fun e he => ?_, ?_, fun e he => ?_⟩
  · rcases List.mem_append.mp he with he | he
    · exact h.nm e he
    · rw [List.mem_singleton.mp he]
      exact hx
  · rcases List.mem_append.mp he with he | he
    · exact h.P e he
    · rw [List.mem_singleton.mp he]
      exact hp
  · rw [List.map_append, List.pairwise_append]
    refine ⟨h.lt, List.pairwise_singleton _ _, fun a ha b hb => ?_⟩
    obtain ⟨e, he, rfl⟩ := List.mem_map.mp ha
    rw [List.mem_singleton.mp hb]
    exact hlt e he
  · rcases List.mem_append.mp he with he | he
    · exact .inl (hlt e he)
    · rw [List.mem_singleton.mp he]
      exact .inr rfl
theorem RdF.nd {n : Nat} {ah : Str} {f : Vw} (h : RdF n ah f) : (f.map (·.1)).Nodup := h.lt.imp fun {a b} h z => by
  rw [z] at h
  exact List.lt_irrefl _ h
theorem rdRows_good {n : Nat} : ∀ {ls : List Str} {ah : Str} {k : Nat} {f g : Vw}, RdF n ah f → rdRows n ls ah k f = .inr g → ∃ ah', RdF n ah' g
  | [], ah, k, f, g, h, e => by
    cases e
    exact ⟨ah, h⟩
  | line :: r, ah, k, f, g, h, e => by
    unfold rdRows at e
    split at e
    · rename_i x p hr
      obtain ⟨r1, r2⟩ := rowW_of hr
      split at e
      · exact rdRows_good (h.snoc r1 r2 (by assumption)) e
      · cases e
    · cases e
end Eyes

set_option Elab.async false
set_option linter.all false
set_option maxRecDepth 100000
set_option maxHeartbeats 4000000
/-! A text that was read is the text of what was read. -/
namespace Eyes
open PySem PySem.Spec PyProof.Rows L2 Evl TL
theorem row_line {n : Nat} {line x : Str} {p : List Nat} (h : rowW n line = some (x, p)) : line = lineS x p := by
  unfold rowW at h
  split at h
  · rename_i y ws hs
    split at h
    · rename_i hc
      obtain ⟨c1, c2, c3, c4⟩ := hc
      cases h
      rw [← join_back line (Str.ofString " "), hs]
      unfold lineS
      rw [List.map_map]
      congr 1
      congr 1
      refine (List.map_id ws).symm.trans (List.map_congr_left fun w hw => ?_)
      have := (isPB_in c2 c3 (List.mem_map.mpr ⟨w, hw, rfl⟩)).1
      have h0 : idxS natS n w ≠ 0 := by omega
      exact (idxS_kf h0).symm
    · cases h
  · cases h
theorem rows_lines {n : Nat} : ∀ {ls : List Str} {ah : Str} {k : Nat} {g f : Vw}, rdRows n ls ah k g = .inr f → ∃ h : Vw, f = g ++ h ∧ ls = h.map fun e => lineS e.1 e.2
  | [], ah, k, g, f, e => by
    cases e
    exact ⟨[], (List.append_nil _).symm, rfl⟩
  | line :: r, ah, k, g, f, e => by
    unfold rdRows at e
    split at e
    · rename_i x p hr
      split at e
      · obtain ⟨h, h1, h2⟩ := rows_lines e
        refine ⟨(x, p) :: h, by rw [h1, List.append_assoc]; rfl, ?_⟩
        rw [List.map_cons, ← h2, ← row_line hr]
      · cases e
    · cases e
theorem read_text {z : Str} {n : Nat} {f : Vw} (h : rdW z = .inr (n, f)) : z = chapS n f ∧ 1 ≤ n ∧ n ≤ 2400 ∧ ∃ ah, RdF n ah f := by
  unfold rdW at h
  split at h
  · rename_i first lines hs
    split at h
    · cases h
    · rename_i hn
      have hn0 : idxS casesS 2400 first ≠ 0 := fun e => hn (.inl e)
      have hl0 : lines ≠ [] := fun e => hn (.inr e)
      split at h
      · cases h
      · rename_i g hg
        split at h
        · rename_i hlast
          cases h
          obtain ⟨ah, hF⟩ := rdRows_good .nil hg
          obtain ⟨h', h1, h2⟩ := rows_lines hg
          have h1 : f = h' := h1
          subst h1
          refine ⟨?_, Nat.pos_of_ne_zero hn0, idxS_le, ah, hF⟩
          have hlines : lines = (f.map fun e => lineS e.1 e.2) ++ [Str.ofString ""] := by
            rw [← h2]
            have e1 := List.dropLast_concat_getLast hl0
            have e2 : lines.getLast hl0 = Str.empty := by
              rw [← hlast, List.getLastD_eq_getLast?, List.getLast?_eq_some_getLast hl0]
              rfl
            rw [e2] at e1
            exact e1.symm
          rw [chap_split fun e he => ?_]
          · rw [idxS_kf hn0, List.cons_append, ← hlines, ← hs]
            exact (join_back z _).symm
          · intro hz
            have := (hF.P e he).1.len
            rw [hz] at this
            exact hn0 this.symm
        · cases h
  · cases h
end Eyes

set_option Elab.async false
set_option linter.all false
set_option maxRecDepth 100000
set_option maxHeartbeats 4000000
/-! Bounds on bent texts. -/
namespace Eyes
open PySem PySem.Spec PyProof.Rows L2 Evl TL
structure Bt (L N : Nat) (z : Str) : Prop where
  len : z.length ≤ L
  asc : ∀ c ∈ tl z, c < 128
  nl : (tl z).count 10 ≤ N
structure Ln (L : Nat) (z : Str) : Prop where
  len : z.length ≤ L
  asc : ∀ c ∈ tl z, c < 128 ∧ c ≠ 10
abbrev lf : Str := Str.ofString "\n"
theorem lf_tl : tl lf = [10] := by decide +kernel
def cutL : List Nat → List (List Nat)
  | [] => [[]]
  | c :: r => if c = 10 then [] :: cutL r else match cutL r with
    | [] => [[c]]
    | p :: q => (c :: p) :: q
theorem cutL_ne : ∀ l, cutL l ≠ []
  | [] => List.cons_ne_nil _ _
  | c :: r => by
    unfold cutL
    split
    · exact List.cons_ne_nil _ _
    · split <;> exact List.cons_ne_nil _ _
theorem cutL_join : ∀ l, joinL [10] (cutL l) = l
  | [] => rfl
  | c :: r => by
    have ih := cutL_join r
    have hne := cutL_ne r
    unfold cutL
    cases e : cutL r with
    | nil => exact absurd e hne
    | cons p q =>
      rw [e] at ih
      split
      · rename_i h
        show [] ++ ([10] ++ joinL [10] (p :: q)) = c :: r
        rw [ih, h]
        rfl
      · show joinL [10] ((c :: p) :: q) = c :: r
        rw [← ih]
        cases q <;> rfl
theorem cutL_free : ∀ l, ∀ p ∈ cutL l, 10 ∉ p
  | [], p, h => by
    rw [List.mem_singleton.mp h]
    exact List.not_mem_nil
  | c :: r, p, h => by
    have ih := cutL_free r
    unfold cutL at h
    cases e : cutL r with
    | nil => exact absurd e (cutL_ne r)
    | cons a q =>
      rw [e] at h ih
      split at h
      · rcases List.mem_cons.mp h with rfl | h
        · exact List.not_mem_nil
        · exact ih p h
      · rename_i hc
        rcases List.mem_cons.mp h with rfl | h
        · exact fun hm => by
            rcases List.mem_cons.mp hm with hm | hm
            · exact hc hm.symm
            · exact ih a (.head _) hm
        · exact ih p (.tail _ h)
theorem lines_free {z p : Str} (h : p ∈ Txt.split z lf) : 10 ∉ tl p := by
  have e : z = Txt.join lf ((cutL (tl z)).map fun l => (⟨l.toArray⟩ : Str)) := by
    refine ext_tl ?_
    rw [TL.join_eq, tl_join, List.map_map, lf_tl, show ((tl ∘ fun l : List Nat => (⟨l.toArray⟩ : Str)) : List Nat → List Nat) = id from rfl, List.map_id, cutL_join]
  rw [e] at h
  rw [split_join (s := 10) (S := []) lf_tl (by decide +kernel) (fun h => cutL_ne (tl z) (List.map_eq_nil_iff.mp h)) fun p hp => by
    obtain ⟨l, hl, rfl⟩ := List.mem_map.mp hp
    exact cutL_free _ l hl] at h
  obtain ⟨l, hl, rfl⟩ := List.mem_map.mp h
  exact cutL_free _ l hl
theorem count_joinL : ∀ ls : List (List Nat), (joinL [10] ls).count 10 + (if ls = [] then 0 else 1) = (ls.map (List.count 10)).sum + ls.length
  | [] => rfl
  | [p] => by simp [joinL]
  | p :: q :: r => by
    have ih := count_joinL (q :: r)
    show (p ++ ([10] ++ joinL [10] (q :: r))).count 10 + _ = _
    rw [if_neg (by simp)] at ih ⊢
    rw [List.count_append, List.count_append, List.map_cons, List.sum_cons, List.length_cons, show List.count 10 [10] = 1 from rfl]
    omega
def wgt (ls : List Str) : Nat := (ls.map fun z => z.length + 1).sum
theorem wgt_append (a b : List Str) : wgt (a ++ b) = wgt a + wgt b := by
  unfold wgt
  rw [List.map_append, List.sum_append]
theorem wgt_cut (ls : List Str) (k : Nat) : wgt (ls.take k) + wgt (ls.drop k) = wgt ls := by
  rw [← wgt_append, List.take_append_drop]
theorem wgt_len (ls : List Str) : wgt ls = ((ls.map tl).map List.length).sum + ls.length := by
  induction ls with
  | nil => rfl
  | cons a r ih =>
    unfold wgt at ih ⊢
    rw [List.map_cons, List.map_cons, List.map_cons, List.sum_cons, List.sum_cons, List.length_cons, ih, len_tl]
    omega
theorem join_wgt (ls : List Str) : (Txt.join lf ls).length ≤ wgt ls := by
  have := joinL_len [10] (ls.map tl)
  rw [len_tl, TL.join_eq, tl_join, lf_tl, wgt_len]
  rw [show ([10] : List Nat).length = 1 from rfl, List.length_map] at this
  omega
theorem wgt_lines (z : Str) : wgt (Txt.split z lf) ≤ z.length + 1 := by
  have := joinL_len [10] ((Txt.split z lf).map tl)
  have e : joinL [10] ((Txt.split z lf).map tl) = tl z := by
    rw [← lf_tl, ← tl_join, ← TL.join_eq, join_back]
  rw [e, show ([10] : List Nat).length = 1 from rfl, List.length_map] at this
  rw [wgt_len, len_tl]
  split at this <;> omega
theorem sum_zero {α : Type} (f : α → Nat) : ∀ {l : List α}, (∀ x ∈ l, f x = 0) → (l.map f).sum = 0
  | [], _ => rfl
  | a :: r, h => by
    rw [List.map_cons, List.sum_cons, h a (.head _), sum_zero f fun x hx => h x (.tail _ hx)]
theorem Bt.join {ls : List Str} {L N : Nat} (h : ∀ p ∈ ls, ∀ c ∈ tl p, c < 128 ∧ c ≠ 10) (hw : wgt ls ≤ L) (hn : ls.length ≤ N) : Bt L N (Txt.join lf ls) := by
  refine ⟨Nat.le_trans (join_wgt ls) hw, fun c hc => ?_, ?_⟩
  · rw [TL.join_eq, tl_join, lf_tl] at hc
    rcases mem_joinL hc with hc | ⟨l, hl, hd⟩
    · rw [List.mem_singleton.mp hc]
      decide
    · obtain ⟨p, hp, rfl⟩ := List.mem_map.mp hl
      exact (h p hp c hd).1
  · have := count_joinL (ls.map tl)
    rw [sum_zero (List.count 10) fun l hl => by
      obtain ⟨p, hp, rfl⟩ := List.mem_map.mp hl
      exact List.count_eq_zero.mpr fun hc => (h p hp 10 hc).2 rfl, List.length_map] at this
    rw [TL.join_eq, tl_join, lf_tl]
    omega
theorem Bt.lines {z : Str} {L N : Nat} (h : Bt L N z) : (∀ p ∈ Txt.split z lf, ∀ c ∈ tl p, c < 128 ∧ c ≠ 10) ∧ wgt (Txt.split z lf) ≤ L + 1 ∧ (Txt.split z lf).length ≤ N + 1 := by
  have hf : ∀ p ∈ Txt.split z lf, 10 ∉ tl p := fun p hp => lines_free hp
  refine ⟨fun p hp c hc => ⟨h.asc c (by
    rw [← join_back z lf, TL.join_eq, tl_join]
    have : ∀ {ls : List (List Nat)}, tl p ∈ ls → c ∈ joinL (tl lf) ls := fun {ls} => by
      induction ls with
      | nil => intro h; cases h
      | cons a r ih =>
        intro hm
        cases r with
        | nil =>
          rw [List.mem_singleton.mp hm] at hc
          exact hc
        | cons b r =>
          show c ∈ a ++ (tl lf ++ joinL (tl lf) (b :: r))
          rcases List.mem_cons.mp hm with e | hm
          · exact List.mem_append_left _ (e ▸ hc)
          · exact List.mem_append_right _ (List.mem_append_right _ (ih hm))
    exact this (List.mem_map.mpr ⟨p, hp, rfl⟩)), fun e => hf p hp (e ▸ hc)⟩, ?_, ?_⟩
  · have := wgt_lines z
    have := h.len
    omega
  · have := count_joinL ((Txt.split z lf).map tl)
    rw [sum_zero (List.count 10) fun l hl => by
      obtain ⟨p, hp, rfl⟩ := List.mem_map.mp hl
      exact List.count_eq_zero.mpr (hf p hp), List.length_map, ← lf_tl, ← tl_join, ← TL.join_eq, join_back] at this
    have h2 := h.nl
    split at this <;> omega
theorem Bt.mono {L N L' N' : Nat} {z : Str} (h : Bt L N z) (hl : L ≤ L') (hn : N ≤ N') : Bt L' N' z := ⟨Nat.le_trans h.len hl, h.asc, Nat.le_trans h.nl hn⟩
theorem Bt.glue {z : Str} {L N : Nat} (h : Bt L N z) {ls : List Str} {k : Nat} (hs : ∀ p ∈ ls, p ∈ Txt.split z lf ∨ Ln k p) (hw : wgt ls ≤ 2 * L + 140) (hn : ls.length ≤ N + 2) : Bt (2 * L + 140) (N + 2) (Txt.join lf ls) :=
  Bt.join (fun p hp c hc => (hs p hp).elim (fun hp => h.lines.1 p hp c hc) fun hp => hp.asc c hc) hw hn
theorem le_sum {x : Nat} : ∀ {l : List Nat}, x ∈ l → x ≤ l.sum
  | a :: r, h => by
    rw [List.sum_cons]
    rcases List.mem_cons.mp h with rfl | h
    · omega
    · have := le_sum h
      omega
theorem Bt.parts {z : Str} {L N : Nat} (h : Bt L N z) (hL : L ≤ 4000) (hN : N ≤ 50) : z.length ≤ 15000 ∧ (∀ c ∈ tl z, c < 128) ∧ (Txt.split z lf).length ≤ 60 ∧ (∀ line ∈ Txt.split z lf, ∀ x ws, Txt.split line (Str.ofString " ") = x :: ws → x.length ≤ 4000) ∧ ∀ line ∈ Txt.split z lf, (Txt.split line (Str.ofString " ")).length ≤ 4096 := by
  have hl := h.len
  have h3 := h.lines
  have hll : ∀ line ∈ Txt.split z lf, line.length ≤ 4000 := fun line hline => by
    have hm : line.length + 1 ≤ wgt (Txt.split z lf) := by
      unfold wgt
      exact le_sum (List.mem_map.mpr ⟨line, hline, rfl⟩)
    have := wgt_lines z
    omega
  have hsp : ∀ line : Str, (Txt.split line (Str.ofString " ")).length ≤ line.length + 1 := fun line => by
    have := joinL_len [32] ((Txt.split line (Str.ofString " ")).map tl)
    have e : joinL [32] ((Txt.split line (Str.ofString " ")).map tl) = tl line := by
      have e1 : tl (Str.ofString " ") = [32] := rfl
      rw [← e1, ← tl_join, ← TL.join_eq, join_back]
    rw [e, show ([32] : List Nat).length = 1 from rfl, List.length_map, ← len_tl] at this
    split at this <;> omega
  refine ⟨by omega, h.asc, by omega, fun line hline x ws hx => ?_, fun line hline => ?_⟩
  · have h1 := hll line hline
    have h2 := joinL_len [32] ((Txt.split line (Str.ofString " ")).map tl)
    have e : joinL [32] ((Txt.split line (Str.ofString " ")).map tl) = tl line := by
      have e1 : tl (Str.ofString " ") = [32] := rfl
      rw [← e1, ← tl_join, ← TL.join_eq, join_back]
    rw [e, hx, show ([32] : List Nat).length = 1 from rfl, List.length_map, ← len_tl, List.map_cons, List.map_cons, List.sum_cons, ← len_tl, if_neg (by simp), List.length_cons] at h2
    omega
  · have h1 := hll line hline
    have h2 := hsp line
    omega
/-! ### signs cut and put in -/
theorem Bt.take {z : Str} {L N : Nat} (h : Bt L N z) (k : Nat) : Bt L N ⟨((tl z).take k).toArray⟩ := by
  refine ⟨?_, fun c hc => h.asc c (List.mem_of_mem_take hc), Nat.le_trans ((List.take_sublist k (tl z)).count_le 10) h.nl⟩
  have := h.len
  rw [len_tl] at this ⊢
  show ((tl z).take k).length ≤ L
  rw [List.length_take]
  omega
theorem Bt.app {z y : Str} {L N k m : Nat} (h : Bt L N z) (h2 : Bt k m y) : Bt (L + k) (N + m) (z ++ y) := by
  refine ⟨?_, fun c hc => ?_, ?_⟩
  · rw [Str.length_append]
    have := h.len
    have := h2.len
    omega
  · rw [tl_append] at hc
    exact (List.mem_append.mp hc).elim (h.asc c) (h2.asc c)
  · rw [tl_append, List.count_append]
    have := h.nl
    have := h2.nl
    omega
theorem Bt.mid {z y : Str} {L N k m : Nat} (h : Bt L N z) (h2 : Bt k m y) (a d : Nat) : Bt (L + k) (N + m) (⟨((tl z).take a).toArray⟩ ++ y ++ ⟨((tl z).drop (a + d)).toArray⟩) := by
  have e : (tl z).drop (a + d) = ((tl z).drop a).drop d := (List.drop_drop ..).symm
  have hs : ((tl z).drop (a + d)).length ≤ ((tl z).drop a).length := by
    rw [e, List.length_drop]
    omega
  have hc : ((tl z).drop (a + d)).count 10 ≤ ((tl z).drop a).count 10 := by
    rw [e]
    exact (List.drop_sublist d _).count_le 10
  have hsum : ((tl z).take a).length + ((tl z).drop a).length = z.length := by
    rw [← List.length_append, List.take_append_drop, len_tl]
  have hcs : ((tl z).take a).count 10 + ((tl z).drop a).count 10 = (tl z).count 10 := by
    rw [← List.count_append, List.take_append_drop]
  have e1 := h.len
  have e2 := h2.len
  have e3 := h.nl
  have e4 := h2.nl
  refine ⟨?_, fun c hc => ?_, ?_⟩
  · rw [Str.length_append, Str.length_append, len_tl, len_tl (⟨((tl z).drop (a + d)).toArray⟩)]
    show ((tl z).take a).length + y.length + ((tl z).drop (a + d)).length ≤ _
    omega
  · rw [tl_append, tl_append] at hc
    rcases List.mem_append.mp hc with hc | hc
    · rcases List.mem_append.mp hc with hc | hc
      · exact h.asc c (List.mem_of_mem_take hc)
      · exact h2.asc c hc
    · exact h.asc c (List.mem_of_mem_drop hc)
  · rw [tl_append, tl_append, List.count_append, List.count_append]
    show ((tl z).take a).count 10 + (tl y).count 10 + ((tl z).drop (a + d)).count 10 ≤ _
    omega
theorem Ln.app {z y : Str} {L k : Nat} (h : Ln L z) (h2 : Ln k y) : Ln (L + k) (z ++ y) := by
  refine ⟨?_, fun c hc => ?_⟩
  · rw [Str.length_append]
    have := h.len
    have := h2.len
    omega
  · rw [tl_append] at hc
    exact (List.mem_append.mp hc).elim (h.asc c) (h2.asc c)
theorem Ln.mono {z : Str} {L k : Nat} (h : Ln L z) (hl : L ≤ k) : Ln k z := ⟨Nat.le_trans h.len hl, h.asc⟩
theorem Ln.nm {z : Str} (h : Eyes.nm z) : Ln 6 z := ⟨h.2.1, fun c hc => by
  have := h.2.2 c hc
  omega⟩
theorem Ln.num {n : Nat} (h : n ≤ 4096) : Ln 4 (natS n) := ⟨natS_len h, fun c hc => by
  have := natS_digit hc
  omega⟩
theorem Ln.joinS {ls : List Str} {k : Nat} (h : ∀ p ∈ ls, Ln k p) : Ln (ls.length * (k + 1)) (Txt.join (Str.ofString " ") ls) := by
  have e1 : tl (Str.ofString " ") = [32] := rfl
  refine ⟨?_, fun c hc => ?_⟩
  · have := joinL_len [32] (ls.map tl)
    rw [len_tl, TL.join_eq, tl_join, e1]
    rw [show ([32] : List Nat).length = 1 from rfl, List.length_map] at this
    have hs : ((ls.map tl).map List.length).sum ≤ ls.length * k := by
      clear this
      induction ls with
      | nil => exact Nat.zero_le _
      | cons a r ih =>
        rw [List.map_cons, List.map_cons, List.sum_cons, List.length_cons, Nat.add_mul, Nat.one_mul]
        have := ih fun p hp => h p (.tail _ hp)
        have h0 := (h a (.head _)).len
        rw [len_tl] at h0
        omega
    have : ls.length * (k + 1) = ls.length * k + ls.length := Nat.mul_succ ..
    omega
  · rw [TL.join_eq, tl_join, e1] at hc
    rcases mem_joinL hc with hc | ⟨l, hl, hd⟩
    · rw [List.mem_singleton.mp hc]
      decide
    · obtain ⟨p, hp, rfl⟩ := List.mem_map.mp hl
      exact (h p hp).asc c hd
theorem replL_len {y z : List Nat} (hy : 1 ≤ y.length) : ∀ (k : Nat) (l : List Nat), l.length ≤ k → (PySem.StrLaws.replL y z l).length ≤ (1 + z.length) * l.length ∧ ∀ c ∈ PySem.StrLaws.replL y z l, c ∈ z ∨ c ∈ l
  | _, [], _ => by
    rw [PySem.StrLaws.replL_nil]
    exact ⟨Nat.zero_le _, fun c hc => nomatch hc⟩
  | 0, a :: r, h => absurd h (by rw [List.length_cons]; omega)
  | k + 1, a :: r, h => by
    rw [List.length_cons] at h
    have hne : y ≠ [] := fun e => by
      rw [e] at hy
      exact absurd hy (by decide)
    by_cases hh : (a :: r).take y.length = y
    · rw [PySem.StrLaws.replL_hit hne hh]
      have hd : ((a :: r).drop y.length).length ≤ r.length := by
        rw [List.length_drop, List.length_cons]
        omega
      obtain ⟨i1, i2⟩ := replL_len (z := z) hy k ((a :: r).drop y.length) (by omega)
      refine ⟨?_, fun c hc => ?_⟩
      · rw [List.length_append, List.length_cons]
        have : (1 + z.length) * ((a :: r).drop y.length).length ≤ (1 + z.length) * r.length := Nat.mul_le_mul_left _ hd
        have e : (1 + z.length) * (r.length + 1) = (1 + z.length) * r.length + (1 + z.length) := Nat.mul_succ ..
        omega
      · rcases List.mem_append.mp hc with hc | hc
        · exact .inl hc
        · rcases i2 c hc with hc | hc
          · exact .inl hc
          · exact .inr (List.mem_of_mem_drop hc)
    · rw [PySem.StrLaws.replL_miss hh]
      obtain ⟨i1, i2⟩ := replL_len (z := z) hy k r (by omega)
      refine ⟨?_, fun c hc => ?_⟩
      · rw [List.length_cons, List.length_cons]
        have e : (1 + z.length) * (r.length + 1) = (1 + z.length) * r.length + (1 + z.length) := Nat.mul_succ ..
        omega
      · rcases List.mem_cons.mp hc with rfl | hc
        · exact .inr (.head _)
        · exact (i2 c hc).imp_right (.tail _)
theorem Ln.repl {x : Str} {L : Nat} (h : Ln L x) : Ln (3 * L) (Txt.replace x (Str.ofString "1") (Str.ofString "01")) := by
  have e1 : tl (Str.ofString "1") = [49] := rfl
  have e2 : tl (Str.ofString "01") = [48, 49] := rfl
  have e := PySem.StrLaws.replace_list (x := x) (y := Str.ofString "1") (z := Str.ofString "01") (by decide +kernel)
  have e : tl (Txt.replace x (Str.ofString "1") (Str.ofString "01")) = PySem.StrLaws.replL [49] [48, 49] (tl x) := e
  obtain ⟨h1, h2⟩ := replL_len (y := [49]) (z := [48, 49]) (Nat.le_refl _) _ (tl x) (Nat.le_refl _)
  have hl := h.len
  refine ⟨?_, fun c hc => ?_⟩
  · rw [len_tl] at hl ⊢
    rw [e]
    have : (1 + ([48, 49] : List Nat).length) * (tl x).length = 3 * (tl x).length := rfl
    omega
  · rw [e] at hc
    rcases h2 c hc with hc | hc
    · simp only [List.mem_cons, List.not_mem_nil, or_false] at hc
      omega
    · exact h.asc c hc
end Eyes

set_option Elab.async false
set_option linter.all false
set_option maxRecDepth 100000
set_option maxHeartbeats 4000000
/-! Worlds read: a good text. -/
namespace Eyes
open PySem PySem.Spec PyProof.Rows L2 Evl TL
theorem dp_strs {K : PySem.W.Frag} {H : Hp} : ∀ l : List Str, DpAll K H (l.map V.str) (l.map PyData.str)
  | [] => .nil
  | _ :: l => .cons (.str _) (dp_strs l)
theorem shaped_strs {l : List Str} (h : ∀ s ∈ l, PyData.strOk s = true) : SeqAt.shaped (.list (l.map PyData.str)) = true := by
  have h1 : PyData.canLay0 (.list (l.map PyData.str)) = true := by
    show PyData.canLayAll0 _ = true
    induction l with
    | nil => rfl
    | cons c l ih =>
      show (PyData.canLay0 (.str c) && PyData.canLayAll0 (l.map PyData.str)) = true
      rw [ih fun s hs => h s (List.mem_cons_of_mem _ hs), Bool.and_true]
      exact h c (.head _)
  have h2 : PyData.depth (.list (l.map PyData.str)) ≤ 64 := by
    have : PyData.depthAll (l.map PyData.str) = 0 := by
      clear h1 h
      induction l with
      | nil => rfl
      | cons c l ih =>
        show max (PyData.depth (.str _)) _ = 0
        rw [ih]
        rfl
    show PyData.depthAll _ + 1 ≤ 64
    rw [this]
    decide
  unfold SeqAt.shaped
  rw [h1, decide_eq_true h2]
  rfl
theorem strOk_of {s : Str} (h : ∀ c ∈ tl s, c < 1114112) : PyData.strOk s = true := by
  show s.cps.all (fun c => decide (c < 1114112)) = true
  rw [← Array.all_toList, List.all_eq_true]
  exact fun c hc => decide_eq_true (h c hc)
theorem vK_valV {t : Str} {v : V} : ∀ {W : List VRow}, valV (vK W) (.inr t : L2.Key) = some v → ∃ e ∈ W, e.1 = t
  | [], h => by cases h
  | x :: W, h => by
    by_cases hx : (Sum.inr x.1 : L2.Key) = .inr t
    · exact ⟨x, .head _, Sum.inr.inj hx⟩
    · have h : valV ((Sum.inr x.1, V.ref x.2.1) :: vK W) (.inr t : L2.Key) = some v := h
      rw [valV_neg hx] at h
      obtain ⟨e, he, h2⟩ := vK_valV h
      exact ⟨e, .tail _ he, h2⟩
theorem cut_butlast (xs : List V) (y : V) : cutV (xs ++ [y]) none (some (-1)) = xs := by
  unfold cutV
  rw [HT.sIx_none, List.drop_zero, Nat.sub_zero]
  have e : HT.sIx (xs ++ [y]).length (xs ++ [y]).length (some (-1)) = xs.length := by
    show (if (-1 : Int) < 0 then ((-1 : Int) + ((xs ++ [y]).length : Nat)).toNat else min (-1 : Int).toNat (xs ++ [y]).length) = xs.length
    rw [if_pos (by decide), List.length_append, show [y].length = 1 from rfl]
    omega
  rw [e]
  exact List.take_left ..
theorem at_last {xs : List V} {y : V} : atI (xs ++ [y]) (-1) = some y := by
  unfold atI ixN
  rw [if_neg (by decide), if_pos (by rw [List.length_append, show [y].length = 1 from rfl]; omega)]
  show (xs ++ [y])[((-1 : Int) + ((xs ++ [y]).length : Nat)).toNat]? = some y
  rw [List.length_append, show ((-1 : Int) + ((xs.length + [y].length : Nat) : Int)).toNat = xs.length by
    rw [show [y].length = 1 from rfl]
    omega]
  simp
structure RdOk (n : Nat) (f : Vw) : Prop where
  n1 : 1 ≤ n
  n2 : n ≤ 2400
  few : f.length < 64
  nm : ∀ e ∈ f, nm e.1
  P : ∀ e ∈ f, IsP n e.2 ∧ e.2 ≠ alone n
  nd : (f.map (·.1)).Nodup
  so : (f.map (·.1)).Pairwise fun a b => leC a.cps.toList b.cps.toList
theorem RdOk.vw {n : Nat} {f : Vw} (h : RdOk n f) (t : Str) : IsP n (gP n f t) := by
  unfold gP wGet
  cases e : f.find? fun e => decide (e.1 = t) with
  | none => exact isP_alone n
  | some x => exact (h.P x (List.mem_of_find?_eq_some e)).1
theorem RdOk.ne {n : Nat} {f : Vw} (h : RdOk n f) : ∀ e ∈ f, Eyes.nm e.1 ∧ e.2 ≠ [] := fun e he => ⟨h.nm e he, fun z => by
  have := (h.P e he).1.len
  rw [z] at this
  have h0 : ([] : List Nat).length = 0 := rfl
  have := h.n1
  omega⟩
def spReadW (C : Addr) : Sp := fun vs H Q _ => ∃ (n : Nat) (f : Vw), vs = [.str (chapS n f)] ∧ RdOk n f ∧
  ∀ u H', Ex H H' → WIs C H' u n f.length (gP n f) → Q u H'
section
variable {P : Program} {w : World} {K : PySem.W.Frag} {mg : Str → Option Value} {base : Heap} {AA : Adr}
end
end Eyes

set_option Elab.async false
set_option linter.all false
set_option maxRecDepth 100000
set_option maxHeartbeats 4000000
/-! Static methods that may raise. -/
namespace Eyes
open PySem PySem.Spec PyProof.Rows L2
def PrStaX (P : Program) (w : World) (K : PySem.W.Frag) (mg : Str → Option Value) (base : Heap) (C : Addr) (m qual : Str) (st : Stmt) (ps : List Str) (k : Nat) (sp : Sp) : Prop :=
  ∃ (mc : Value) (p f : Addr) (fd : FuncData), ClX.CRead K C mc ∧ CSta K C mc m p f ∧ Fun K m qual st f fd ∧ Binds K fd ps [] ∧ FnOk P w K mg base (L2.CX P w) k f fd ps sp
section
variable {P : Program} {w : World} {K : PySem.W.Frag} {mg : Str → Option Value} {base : Heap}
theorem prstax_mk {C : Addr} {m qual : Str} {st : Stmt} {N ps : List Str} {k : Nat} {sp : Sp} (A : StaAt K C m qual st ps) (S : FnScope N ps (defScope st)) (len : ∀ vs H Q E, sp vs H Q E → vs.length = ps.length)
    (hbody : ∀ (f : Addr) (cdv : Value) (A : Around) (outer : List Env) (s : Shared) (H : Hp) (vs : List V) (Q : VK) (E : XK), Room k (A.deeper (envOfC qual (defScope st) s.heap.objs.size f cdv)) → sp vs H Q E →
      Takes (cxOf (L2.CX P w) P w K mg base N qual (defScope st) f cdv A outer s H E) (fun cls d _ G => E cls d G) →
      ∃ t, PSs (cxOf (L2.CX P w) P w K mg base N qual (defScope st) f cdv A outer s H E) (defBody st) t ∧ t { nx := fun _ H' => Q .non H', rt := Q } (start N vs) H) : PrStaX P w K mg base C m qual st ps (k + 1) sp := by
  obtain ⟨mc, p, f, fd, r, a, F, hb⟩ := A
  exact ⟨mc, p, f, fd, r, a, F, hb, F.okX S len fun cdv A outer s H vs Q E hr h => hbody f cdv A outer s H vs Q E hr h (takes_of rfl rfl rfl rfl)⟩
end
def tStaNX (C : Addr) (n : Nat) (sp : Sp) (is : List Nat) (E : XK) (ta : TE) (tk : TA) : TE := fun σ H Q => ta σ H fun x H1 => x = .ref C ∧ tk σ H1 fun zs H2 => zs.length = n ∧ sp (pick is zs) H2 Q E
section
variable {X : Cx} {C : Addr} {j k : Nat} {ps ks : List Str} {is : List Nat} {sp : Sp} {m qual : Str} {st : Stmt} {o : Expr} {kws : List Keyword} {apos pos : Pos} {ta : TE} {tk : TA} {E : XK}
theorem pstaNX {pl : Sem Bool} (G : PrStaX X.prog X.w X.K X.mg X.base C m qual st ps j sp) (hk : KwOkS m qual st ps ks is) (hr : Room k X.A) (hx : ∀ σ, PassesAt (L2.CX X.prog X.w) X σ E) (he : PE X o ta) (hkw : PK X kws tk) (hj : j ≤ k := by first | decide | omega)
    (hall : (backToKw pos (keywordEach kws X.env)).all (·.1.isSome) = true := by rfl) (hks : (backToKw pos (keywordEach kws X.env)).filterMap (·.1) = ks := by rfl)
    (hpl : ((backTo pos (starEach [] X.env)).any (·.1) || (backToKw pos (keywordEach kws X.env)).any (·.1.isNone)) = false := by rfl)
    (ht : eval (.Call (.Attribute o m apos) [] kws pos) X.env = (do
      let ov ← eval o X.env
      standAt apos.atName
      let (f, first) ← holding [ov] (getMethod ov m pl)
      callWith pos f first (backTo pos (starEach [] X.env)) (backToKw pos (keywordEach kws X.env))) := by rfl) :
    PE X (.Call (.Attribute o m apos) [] kws pos) (tStaNX C ks.length sp is E ta tk) := by
  obtain ⟨mc, p, f, fd, r, a, F0, hb, F⟩ := G
  refine ⟨fun pins s σ H Q I h => ?_⟩
  refine PySem.W.methodCall_KW (pl := pl) (thn (he.run pins s σ H _ I h) fun u s1 ⟨x, H1, I1, rx, ex, q⟩ => ?_) ht
  subst ex
  obtain rfl : u = Value.ref C := rx
  obtain ⟨rest, hp⟩ := a.rc
  refine PySem.W.method_cls I1.kIn r.ga (PySem.W.cls_bind I1.kIn r.rd a.at_ (wpAny_call (PySem.W.sm_get (s := { s1 with toks := s1.toks + 1 }) I1.kIn hp (PySem.W.handed_on rfl ?_))))
  have I2 : Inv X pins σ H1 { s1 with toks := s1.toks + 1 } := I1.tok _
  refine PySem.W.callWith_KW0 (first := []) (h₀ := X.base) I.ok.mod.kin a.kp hall ?_ hpl
  refine thn (hkw.run pos pins _ σ H1 _ I2 q) fun ws s2 ⟨zs, H2, I3, rz, l2, q2⟩ => ⟨I3.kIn, ?_⟩
  rw [hks]
  have kb : KBn X.K fd ps 0 ks (fun us ws => pick is ws) (fun vs zs => pick is zs) := by
    obtain ⟨oc, od, kV, doc, pm, an, cdv, ct, osl, rfl, lk, hcd⟩ := F0.ex
    exact ⟨fun s us ws _ h1 h2 => .of_eq (by rw [List.length_eq_zero_iff.mp h1]; exact hk kV doc pm an cdv ct ws h2), fun r1 r2 => pick_vals r2 is⟩
  exact run_fnN (us := []) (vs := []) F (hr.mono hj) kb (fun pins σ => hx σ pins) I3 .nil rz rfl l2 q2
end
end Eyes

set_option Elab.async false
set_option linter.all false
/-! A wrong text is refused. -/
namespace Eyes
open PySem PySem.Spec PyProof.Rows L2 Evl TL
def BadT (AA : Adr) (H : Hp) (E : XK) (p : Int) : Prop := ∀ d H', H d = none → Ex H H' → H' d = some (.xd [("at", .int p)]) → E (.ref AA.InvalidText) (some d) H'
theorem BadT.mono {AA : Adr} {H H' : Hp} {E : XK} {p : Int} (h : BadT AA H E p) (e : Ex H H') : BadT AA H' E p := fun d H2 hd e2 hx => h d H2 (fresh_back e hd) (e.trans e2) hx
end Eyes

set_option Elab.async false
set_option linter.all false
set_option maxRecDepth 100000
set_option maxHeartbeats 4000000
/-! Texts of worlds read, any. -/
namespace Eyes
open PySem PySem.Spec PyProof.Rows L2 Evl TL
def spPartToG : Sp := fun vs H Q _ => ∃ (a : Addr) (p : List Nat) (n : Nat), vs = [.ref a, .int (n : Int)] ∧ H a = some (.tup (nvs p)) ∧ p.length ≤ 4096 ∧ ∀ H', Ex H H' → Q (.bl (isPB p && decide (p.length = n))) H'
structure TxW (z : Str) : Prop where
  len : z.length ≤ 15000
  asc : ∀ c ∈ tl z, c < 128
  few : (Txt.split z (Str.ofString "\n")).length ≤ 60
  fst : ∀ line ∈ Txt.split z (Str.ofString "\n"), ∀ x ws, Txt.split line (Str.ofString " ") = x :: ws → x.length ≤ 4000
  wds : ∀ line ∈ Txt.split z (Str.ofString "\n"), (Txt.split line (Str.ofString " ")).length ≤ 4096
def NoTxt (K : PySem.W.Frag) (H : Hp) (v : V) : Prop := ∃ t, TyX K H v t ∧ PySem.W.kitOne K t (.type "str") = some false
def spReadX (K : PySem.W.Frag) (AA : Adr) : Sp := fun vs H Q E => (∃ v, vs = [v] ∧ NoTxt K H v ∧ BadT AA H E (-1)) ∨ ∃ z : Str, vs = [.str z] ∧ TxW z ∧ (∀ k, rdW z = .inl k → BadT AA H E k) ∧ ∀ n f, rdW z = .inr (n, f) → ∀ u H', Ex H H' → WIs AA.World H' u n f.length (gP n f) → Q u H'
theorem snoc_or {α : Type} (l : List α) : l = [] ∨ ∃ i x, l = i ++ [x] := by
  cases l with
  | nil => exact .inl rfl
  | cons a r => exact .inr ⟨(a :: r).dropLast, (a :: r).getLast (List.cons_ne_nil _ _), (List.dropLast_concat_getLast _).symm⟩
theorem joinL_sub {s : List Nat} {c : Nat} {l : List Nat} (hc : c ∈ l) : ∀ {ls : List (List Nat)}, l ∈ ls → c ∈ joinL s ls
  | [], h => nomatch h
  | [p], h => by
    rw [List.mem_singleton.mp h] at hc
    exact hc
  | p :: q :: r, h => by
    show c ∈ p ++ (s ++ joinL s (q :: r))
    rcases List.mem_cons.mp h with rfl | h
    · exact List.mem_append_left _ hc
    · exact List.mem_append_right _ (List.mem_append_right _ (joinL_sub hc h))
theorem joinL_le {s l : List Nat} : ∀ {ls : List (List Nat)}, l ∈ ls → l.length ≤ (joinL s ls).length
  | [], h => nomatch h
  | [p], h => by
    rw [List.mem_singleton.mp h]
    exact Nat.le_refl _
  | p :: q :: r, h => by
    show _ ≤ (p ++ (s ++ joinL s (q :: r))).length
    rw [List.length_append, List.length_append]
    rcases List.mem_cons.mp h with rfl | h
    · omega
    · have := joinL_le (s := s) h
      omega
theorem split_mem {z y p : Str} {c : Nat} (h : p ∈ Txt.split z y) (hc : c ∈ tl p) : c ∈ tl z := by
  rw [← join_back z y, TL.join_eq, tl_join]
  exact joinL_sub hc (List.mem_map.mpr ⟨p, h, rfl⟩)
theorem split_len {z y p : Str} (h : p ∈ Txt.split z y) : p.length ≤ z.length := by
  rw [len_tl, len_tl, ← join_back z y, TL.join_eq, tl_join]
  exact joinL_le (List.mem_map.mpr ⟨p, h, rfl⟩)
section
variable {P : Program} {w : World} {K : PySem.W.Frag} {mg : Str → Option Value} {base : Heap} {AA : Adr}
theorem ok_InvalidText___init (T : Txt K mg AA) {f : Addr} {fd : FuncData} (F : Fun K "__init__" "InvalidText.__init__" s_InvalidText___init f fd) (hb : Binds K fd p_InvalidText___init []) : FnOk P w K mg base CX0 1 f fd p_InvalidText___init (spErr1 AA.InvalidText "at") :=
  F.ok sc_InvalidText___init (fun vs H Q E h => by
    obtain ⟨a, v, rfl, _⟩ := h
    rfl) fun cdv A outer s H vs Q E hr h => by
    obtain ⟨a, v, rfl, ha, q⟩ := h
    refine ⟨_, (pss_one (ps_ost (pv 0) (pv 1))), ?_⟩
    exact ⟨v, rfl, .ref a, rfl, a, AA.InvalidText, rfl, T.e_InvalidText.oex, T.a_InvalidText_at, .inl ⟨ha, fun dx hd hne => q dx hd hne⟩⟩
theorem ok_is_parting_toG (T : Txt K mg AA) : Pr P w K mg base "is_parting_to" s_is_parting_to p_is_parting_to 4 spPartToG := by
  refine pr_mk T.f_is_parting_to sc_is_parting_to (fun vs H Q E h => ?_) (fun f cdv A outer s H vs Q E hr h => ?_)
  · obtain ⟨a, p, n, rfl, _⟩ := h
    rfl
  · obtain ⟨a, p, n, rfl, ha, hl, q⟩ := h
    refine ⟨_, (pss_one (ps_ret (pe_and (pcall (ok_is_parting T) hr (pa_cons (pv 0) pa_nil)) (pe_one (pe_cmpR op_eq (pe_callB (call_len_seqK (K := K) rfl) (by rfl) T.n_len PySem.boot_len (pa_cons (pv 0) pa_nil)) (pv 1) (nomark _)))))), ?_⟩
    refine ⟨_, rfl, .ref a, .tuple (ndats p), rfl, .tup ha (reps_ndats p), fun ds hds => ?_, fun H1 e1 => ?_⟩
    · cases hds
      refine ⟨?_, shaped_ndats⟩
      unfold ndats
      rw [List.length_map]
      exact hl
    rw [partD_nat]
    cases hb : isPB p with
    | false =>
      rw [hb, Bool.false_and] at q
      exact ⟨_, rfl, iteF (q _ e1)⟩
    | true =>
      rw [hb, Bool.true_and] at q
      refine ⟨_, rfl, iteT ⟨_, rfl, a, nvs p, rfl, .inr (st_of (e1 _ _ ha)), _, rfl, rfl, ?_⟩⟩
      have e2 : decide (V.int ((nvs p).length : Int) = V.int (n : Int)) = decide (p.length = n) := decide_eq_decide.mpr ⟨fun h => by rw [nvs_len] at h; exact Int.ofNat.inj (V.int.inj h), fun h => by rw [nvs_len, h]⟩
      show Q (.bl (decide (V.int ((nvs p).length : Int) = V.int (n : Int)))) H1
      rw [e2]
      exact q _ e1
theorem ok_World_readX (T : Txt K mg AA) : PrStaX P w K mg base AA.World "read" "World.read" s_World_read p_World_read 12 (spReadX K AA) := by
  refine prstax_mk T.u_World_read sc_World_read (fun vs H Q E h => ?_) (fun f cdv A outer s H vs Q E hr h tk => ?_)
  · rcases h with ⟨z, rfl, _⟩ | ⟨z, rfl, _⟩
    · rfl
    · rfl
  · refine ⟨_, (pss_cons (ps_if (pt_not (pt_val (pe_callB (call_isiK (K := K) rfl) (by rfl) T.n_isinstance PyProof.Rows.boot_isinstance (pa_cons (pv 0) (pa_cons (pe_bltn (v := .ty "str") (by rfl) T.n_str (by decide +kernel) rfl) pa_nil)))))
      (pss_one (ps_raise1 T.e_InvalidText (fun _ _ F b => ok_InvalidText___init T F b) rfl tk hr (pa_cons (pe_un un_neg pe_int) pa_nil)))
      pss_nil)
      (pss_cons (ps_asg (pe_split (pv 0) pe_str) (pg_starL (by rfl) (pgs_cons (pg_name (i := 1) sc_World_read.nd rfl (.inl rfl)) (pgs_cons (pg_name (i := 2) sc_World_read.nd rfl (.inl rfl)) pgs_nil))))
      (pss_cons (ps_set (i := 3) sc_World_read.nd rfl (.inl rfl) (pcall (ok_read_many T) hr (pa_cons (pv 1) pa_nil)))
      (pss_cons (ps_if (PW.pt (pw_or (pt_cmpR op_eq (pv 3) pe_int (nomark _)) (pw_or1 (pt_cmpR (op_eqD hr.units) (pv 2) (pe_lst pa_nil) (nomark _)))))
      (pss_one (ps_raise1 T.e_InvalidText (fun _ _ F b => ok_InvalidText___init T F b) rfl tk hr (pa_cons pe_int pa_nil)))
      pss_nil)
      (pss_cons (ps_set (i := 4) sc_World_read.nd rfl (.inl rfl) pe_dnewK)
      (pss_cons (ps_set (i := 5) sc_World_read.nd rfl (.inl rfl) pe_str)
      (pss_cons (ps_for (passes_of rfl) rfl (pi_enumLSK (K := K) rfl (by rfl) T.n_enumerate (pa_cons (pe_slice sl_list (pv 2) po_none (po_some (pe_un un_neg pe_int))) pa_nil) (pk_cons pe_int pk_nil)) (pg_tup (by rfl) (pgs_cons (pg_name (i := 6) sc_World_read.nd rfl (.inl rfl)) (pgs_cons (pg_name (i := 7) sc_World_read.nd rfl (.inl rfl)) pgs_nil)))
      (pss_cons (ps_asg (pcall (ok_read_parting T) hr (pa_cons (pv 7) (pa_cons (pv 3) pa_nil))) (pg_tup (by rfl) (pgs_cons (pg_name (i := 8) sc_World_read.nd rfl (.inl rfl)) (pgs_cons (pg_name (i := 9) sc_World_read.nd rfl (.inl rfl)) pgs_nil))))
      (pss_cons (ps_if (PW.pt (pw_or (pt_not (pt_val (pcall (ok_is_name T) hr (pa_cons (pv 8) pa_nil)))) (pw_or (pt_cmpR op_le_str (pv 8) (pv 5) (nomark _)) (pw_or (pt_not (pt_val (pcall (ok_is_parting_toG T) hr (pa_cons (pv 9) (pa_cons (pv 3) pa_nil))))) (pw_or1 (pt_cmpR (op_eqD hr.units) (pv 9) (pcall (ok_apart T) hr (pa_cons (pv 3) pa_nil)) (nomark _)))))))
      (pss_one (ps_raise1 T.e_InvalidText (fun _ _ F b => ok_InvalidText___init T F b) rfl tk hr (pa_cons (pv 6) pa_nil)))
      pss_nil)
      (pss_cons (ps_dput (hu_of hr) (pv 4) (pv 8) (pv 9) rfl)
      (pss_one (ps_set (i := 5) sc_World_read.nd rfl (.inl rfl) (pv 8)))))))
      (pss_cons (ps_if (pt_cmpR op_ne (pe_ix (ix_listK (K := K) rfl) (pv 2) (pe_un un_neg pe_int) (fun _ _ => rfl)) pe_str (nomark _))
      (pss_one (ps_raise1 T.e_InvalidText (fun _ _ F b => ok_InvalidText___init T F b) rfl tk hr (pa_cons (pe_callB (call_len_seqK (K := K) rfl) (by rfl) T.n_len PySem.boot_len (pa_cons (pv 2) pa_nil)) pa_nil)))
      pss_nil)
      (pss_one (ps_ret (pcall (ok_world_with T) hr (pa_cons (pv 3) (pa_cons (pv 4) pa_nil))))))))))))), ?_⟩
    rcases h with ⟨v, rfl, ⟨t, ht, hk⟩, qx⟩ | ⟨z, rfl, hz, qx, q⟩
    · exact ⟨_, rfl, v, .ty "str", _, _, false, rfl, .ty _, ht, hk, _, rfl, iteT ⟨_, rfl, raise1_by fun d hd => qx d _ hd (Ex.new hd) upd_same⟩⟩
    have big : 16777216 ≤ sizeLine := by rw [sizeLine_eq]; decide
    have hlen := hz.len
    refine ⟨_, rfl, _, _, _, _, true, rfl, .ty _, .base (.str _), kit_ty (a := "str") (by decide +kernel), _, rfl, iteF ?_⟩
    refine ⟨_, rfl, ⟨_, rfl⟩, _, Str.ofString "\n", rfl, rfl, by decide +kernel, by omega, fun L0 hL0 => ?_⟩
    have hpos := PyProof.Rows.split_pos z (Str.ofString "\n")
    obtain ⟨first, lines, hs⟩ : ∃ x xs, Txt.split z (Str.ofString "\n") = x :: xs := by
      match Txt.split z (Str.ofString "\n"), hpos with
      | x :: xs, _ => exact ⟨x, xs, rfl⟩
    have hfew := hz.few
    rw [hs] at hfew ⊢
    rw [List.length_cons] at hfew
    have hasc : ∀ line ∈ lines, ∀ c ∈ tl line, c < 128 := fun line hl c hc => hz.asc c (split_mem (by rw [hs]; exact .tail _ hl) hc)
    have hlln : ∀ line ∈ lines, line.length ≤ 15000 := fun line hl => Nat.le_trans (split_len (by rw [hs]; exact .tail _ hl)) hlen
    have hok : ∀ s ∈ lines, PyData.strOk s = true := fun s hs => strOk_of fun c hc => by
      have := hasc s hs c hc
      omega
    have hrd : rdW z = if idxS casesS 2400 first = 0 ∨ lines = [] then .inl 0
      else match rdRows (idxS casesS 2400 first) lines.dropLast Str.empty 1 [] with
      | .inl k => .inl k
      | .inr f => if lines.getLastD Str.empty = Str.empty then .inr (idxS casesS 2400 first, f) else .inl lines.length := by
      unfold rdW
      rw [hs]
      try rfl
    have e0 := Ex.new (o := .lst ((first :: lines).map V.str)) hL0
    have h0 := upd_same (H := H) (a := L0) (o := HO.lst ((first :: lines).map V.str))
    generalize upd H L0 _ = H0 at e0 h0 ⊢
    refine ⟨L0, .str first, lines.map V.str, rfl, sq_of h0, by rw [List.length_map]; omega, fun L hL => ⟨_, _, rfl, _, _, rfl, rfl, ?_⟩⟩
    have e1 := Ex.new (o := .lst (lines.map V.str)) hL
    have h1 := upd_same (H := H0) (a := L) (o := HO.lst (lines.map V.str))
    generalize upd H0 L _ = H1 at e1 h1 ⊢
    refine ⟨_, rfl, first, rfl, fun H2 e2 => ?_⟩
    have h2 := e2 _ _ h1
    have x2 := e0.trans (e1.trans e2)
    have nle : idxS casesS 2400 first ≤ 2400 := idxS_le
    generalize idxS casesS 2400 first = n at hrd nle ⊢
    refine ⟨_, rfl, rfl, _, rfl, ?_⟩
    by_cases hn0 : n = 0
    · rw [show decide (V.int (n : Int) = V.int 0) = true from decide_eq_true (by rw [hn0]; rfl)]
      rw [if_pos (.inl hn0)] at hrd
      exact iteT (iteT (raise1_by fun d hd => qx 0 hrd d _ (fresh_back x2 hd) (x2.trans (Ex.new hd)) upd_same))
    rw [show decide (V.int (n : Int) = V.int 0) = false from decide_eq_false fun h => hn0 (Int.ofNat.inj (V.int.inj h))]
    refine iteF ⟨_, rfl, by show 0 ≤ sizeLine; decide, fun D0 hD0 => ?_⟩
    have e3 := Ex.new (o := .lst []) hD0
    have h3 := e3 _ _ h2
    refine ⟨_, .list [], .lst (sq_of h3) (dp_strs _), .lst (sq_of upd_same) .nil, shaped_strs hok, by decide +kernel, ?_⟩
    rcases snoc_or lines with rfl | ⟨ini, last, rfl⟩
    · rw [if_pos (.inr rfl)] at hrd
      rw [show PyData.eqv (.list (([] : List Str).map PyData.str)) (.list []) = true from rfl]
      exact ⟨_, rfl, iteT (raise1_by fun d hd => qx 0 hrd d _ (fresh_back (x2.trans e3) hd) ((x2.trans e3).trans (Ex.new hd)) upd_same)⟩
    rw [show PyData.eqv (.list ((ini ++ [last]).map PyData.str)) (.list []) = false by
      cases ini with
      | nil => rfl
      | cons e f => rfl]
    rw [if_neg (fun h => h.elim hn0 (List.append_ne_nil_of_right_ne_nil _ (List.cons_ne_nil _ _))), List.dropLast_concat] at hrd
    refine ⟨_, rfl, iteF ?_⟩
    generalize upd H2 D0 (.lst []) = H3 at e3 h3 ⊢
    clear h0 h1 h2 hL0 hL hD0
    have x3 := x2.trans e3
    have hLs : (ini ++ [last]).map V.str = ini.map V.str ++ [V.str last] := by
      rw [List.map_append]
      rfl
    rw [hLs] at h3
    have hil : ini.length < 60 := by
      rw [List.length_append, show [last].length = 1 from rfl] at hfew
      omega
    -- the dict of partings
    refine fun D hD => ?_
    have hD4 := upd_same (H := H3) (a := D) (o := HO.dK [])
    have e4 := Ex.new (o := .dK []) hD
    generalize upd H3 D (.dK []) = H4 at hD4 e4 ⊢
    refine ⟨_, rfl, _, rfl, -1, rfl, L, _, rfl, sq_of (e4 _ _ h3), fun S hS => ?_⟩
    rw [cut_butlast]
    have e5 := Ex.new (o := .lst (ini.map V.str)) hS
    have hS5 := upd_same (H := H4) (a := S) (o := HO.lst (ini.map V.str))
    have hD5 := e5 _ _ hD4
    have x35 := e4.trans e5
    generalize upd H4 S _ = H5 at e5 hS5 hD5 x35 ⊢
    refine ⟨S, 1, _, rfl, rfl, by decide, by decide, sq_of hS5, ?_⟩
    refine for_it (walk_enumL (xs := ini.map V.str)) (fun i σ H' => ∃ (ah : Str) (f : Vw) (y6 y7 y8 y9 : Option V), σ = [some (.str z), some (.str first), some (.ref L), some (.int (n : Int)), some (.ref D), some (.str ah), y6, y7, y8, y9] ∧ Ex H3 H' ∧ H' S = some (.lst (ini.map V.str)) ∧ VwAt H' D n f ∧ RdF n ah f ∧ f.length ≤ i ∧ rdRows n ini Str.empty 1 [] = rdRows n (ini.drop i) ah (i + 1) f) ⟨Str.empty, [], none, none, none, none, rfl, x35, hS5, ⟨[], hD5, rfl, fun e he => (nomatch he)⟩, .nil, Nat.le_refl _, rfl⟩ (fun _ _ _ _ hp => ?_) (fun i u σ H6 H7 hi hp hy => ?_) (fun σ H6 hp => ?_)
    · obtain ⟨_, _, _, _, _, _, _, _, h, _⟩ := hp
      exact sq_of h
    · obtain ⟨T1, u1, u2, rfl, hT, rfl, g1, g2⟩ := hy
      obtain ⟨ah, f, y6, y7, y8, y9, rfl, x6, hS6, hV6, hF, hfl, hrr⟩ := hp
      rw [List.length_map] at hi
      have g2 : (ini.map V.str)[i]? = some u2 := g2
      rw [List.getElem?_map] at g2
      obtain ⟨line, hli, rfl⟩ := Option.map_eq_some_iff.mp g2
      have hlm : line ∈ ini ++ [last] := List.mem_append_left _ (List.mem_of_getElem? hli)
      have hdr : ini.drop i = line :: ini.drop (i + 1) := by
        rw [List.drop_eq_getElem_cons hi]
        rw [List.getElem?_eq_getElem hi] at hli
        rw [Option.some.inj hli]
      rw [hdr] at hrr
      have eT := Ex.new (o := .tup [u1, .str line]) hT
      refine ⟨T1, _, rfl, st_of upd_same, rfl, _, _, rfl, _, _, rfl, rfl, ?_⟩
      generalize upd H6 T1 (.tup [u1, .str line]) = H7 at eT ⊢
      refine ⟨_, rfl, _, rfl, line, n, rfl, nle, hlln line hlm, fun x xs hsl p2 r2 H8 e8 hp2 hr2 => ?_⟩
      have hrow : rowW n line = if nameK (.s x) = true ∧ (xs.map (idxS natS n)).length = n ∧ isPB (xs.map (idxS natS n)) = true ∧ xs.map (idxS natS n) ≠ alone n then some (x, xs.map (idxS natS n)) else none := by
        unfold rowW
        rw [hsl]
      have hxs : (xs.map (idxS natS n)).length ≤ 4096 := by
        have := hz.wds line (by rw [hs]; exact .tail _ hlm)
        rw [hsl, List.length_cons] at this
        rw [List.length_map]
        omega
      have hxl := hz.fst line (by rw [hs]; exact .tail _ hlm) x xs hsl
      have hxa : ∀ c ∈ tl x, c < 128 := fun c hc => hasc line hlm c (split_mem (by rw [hsl]; exact .head _) hc)
      generalize xs.map (idxS natS n) = ps at hrow hxs hr2
      have e68 := eT.trans e8
      have bad : ∀ H', Ex H6 H' → (rowW n line = none ∨ ∃ x p, rowW n line = some (x, p) ∧ ¬ ah.cps.toList < x.cps.toList) → ∀ d, H' d = none → E (.ref AA.InvalidText) (some d) (upd H' d (.xd [("at", .int ((i + 1 : Nat) : Int))])) := fun H' e hb d hd => by
        have hr : rdRows n ini Str.empty 1 [] = .inl (i + 1) := by
          rw [hrr]
          unfold rdRows
          rcases hb with hb | ⟨x, p, hb, hn⟩
          · rw [hb]
          · rw [hb]
            show (if _ then _ else _) = _
            rw [if_neg hn]
        exact qx (i + 1) (by rw [hrd, hr]) d _ (fresh_back (x3.trans (x6.trans e)) hd) ((x3.trans (x6.trans e)).trans (Ex.new hd)) upd_same
      have hu1 : u1 = .int ((i + 1 : Nat) : Int) := by
        have g1 : some (V.int ((1 : Int) + (i : Nat))) = some u1 := g1
        rw [← Option.some.inj g1]
        exact congrArg V.int (by omega)
      subst hu1
      refine ⟨p2, _, rfl, st_of hp2, rfl, _, _, rfl, _, _, rfl, rfl, ?_⟩
      refine ⟨_, rfl, .str x, .s x, rfl, ⟨rfl, hxl, hxa⟩, fun H9 e9 => ⟨_, rfl, ?_⟩⟩
      have e69 := e68.trans e9
      cases hnk : nameK (.s x) with
      | false =>
        refine iteT (iteT ⟨_, rfl, raise1_by fun d hd => bad _ e69 (.inl ?_) d hd⟩)
        rw [hrow, if_neg fun h => by rw [hnk] at h; cases h.1]
      | true =>
        refine iteF ⟨_, rfl, _, rfl, x, ah, rfl, rfl, _, rfl, ?_⟩
        by_cases hlt : ah.cps.toList < x.cps.toList
        · rw [decide_eq_true hlt]
          have hr9 := e9 _ _ hr2
          refine iteF ⟨_, rfl, _, rfl, r2, ps, n, rfl, hr9, hxs, fun H10 e10 => ⟨_, rfl, ?_⟩⟩
          have e610 := e69.trans e10
          have hr10 := e10 _ _ hr9
          cases hpb : (isPB ps && decide (ps.length = n)) with
          | false =>
            refine iteT (iteT ⟨_, rfl, raise1_by fun d hd => bad _ e610 (.inl ?_) d hd⟩)
            rw [hrow, if_neg fun h => by rw [h.2.2.1, decide_eq_true h.2.1] at hpb; cases hpb]
          | true =>
            have hpb := (Bool.and_eq_true _ _).mp hpb
            have hpl : ps.length = n := of_decide_eq_true hpb.2
            refine iteF ⟨_, rfl, _, rfl, n, rfl, by omega, fun pa hpa => ?_⟩
            have e11 := Ex.new (o := .tup (nvs (alone n))) hpa
            refine ⟨.tuple (ndats ps), .tuple (ndats (alone n)), .tup (st_of (e11 _ _ hr10)) (dp_nats _), .tup (st_of upd_same) (dp_nats _), shaped_tup _, shaped_tup _, ?_⟩
            rw [eqv_tup]
            by_cases hal : ps = alone n
            · rw [decide_eq_true hal]
              refine ⟨_, rfl, iteT ⟨_, rfl, raise1_by fun d hd => bad _ (e610.trans e11) (.inl ?_) d hd⟩⟩
              rw [hrow, if_neg fun h => h.2.2.2 hal]
            · rw [decide_eq_false hal]
              refine ⟨_, rfl, iteF ?_⟩
              have hrw : rowW n line = some (x, ps) := by rw [hrow, if_pos ⟨hnk, hpl, hpb.1, hal⟩]
              have hr11 := e11 _ _ hr10
              have e611 := e610.trans e11
              generalize upd H10 pa (.tup (nvs (alone n))) = H11 at e11 hr11 e611 ⊢
              obtain ⟨W, w1, w2, w3⟩ := hV6.mono e611
              have hS11 := e611 _ _ hS6
              have hWl : W.length ≤ i := by
                have := congrArg List.length w2
                unfold vW at this
                rw [List.length_map] at this
                omega
              have hnot : ∀ e ∈ W, e.1 ≠ x := fun e he h => by
                have hm : (e.1, e.2.2) ∈ f := by
                  rw [← w2]
                  exact List.mem_map.mpr ⟨e, he, rfl⟩
                rcases hF.le _ hm with h2 | h2
                · have h2 : e.1.cps.toList < ah.cps.toList := h2
                  rw [h] at h2
                  exact List.lt_irrefl _ (List.lt_trans h2 hlt)
                · have h2 : e.1 = ah := h2
                  rw [← h2, h] at hlt
                  exact List.lt_irrefl _ hlt
              have hDr : D ≠ r2 := fun h => by
                rw [← h, w1] at hr11
                cases hr11
              have hkn : valV (vK W) (.inr x : L2.Key) = none := by
                cases hv : valV (vK W) (.inr x : L2.Key) with
                | none => rfl
                | some v =>
                  obtain ⟨kv, hkv, e1⟩ := vK_valV hv
                  exact absurd e1 (hnot kv hkv)
              obtain ⟨r1, r3⟩ := rowW_of hrw
              refine ⟨_, rfl, _, rfl, _, rfl, D, _, rfl, .inl ⟨vK W, .inr x, w1, rfl, ?_, rfl⟩, ?_⟩
              · unfold vK
                rw [List.length_map]
                omega
              rw [putK_new _ hkn]
              refine ⟨_, rfl, x, f ++ [(x, ps)], _, _, _, _, rfl, (x6.trans e611).mut hD, ?_, ⟨W ++ [(x, r2, ps)], ?_, ?_, fun e he => ?_⟩, hF.snoc r1 r3 hlt, by rw [List.length_append]; show f.length + 1 ≤ i + 1; omega, ?_⟩
              · rw [upd_ne fun h => by rw [h, w1] at hS11; cases hS11]
                exact hS11
              · rw [upd_same]
                unfold vK
                rw [List.map_append]
                rfl
              · unfold vW at w2 ⊢
                rw [List.map_append, w2]
                rfl
              · rcases List.mem_append.mp he with he | he
                · have := w3 e he
                  refine ⟨?_, this.2⟩
                  rw [upd_ne fun h => by rw [h, w1] at this; cases this.1]
                  exact this.1
                · rw [List.mem_singleton.mp he]
                  refine ⟨?_, r3.1⟩
                  rw [upd_ne (Ne.symm hDr)]
                  exact hr11
              · rw [hrr, rdRows, hrw]
                show (if _ then _ else _) = _
                rw [if_pos hlt]
        · rw [decide_eq_false hlt]
          refine iteT (iteT ⟨_, rfl, raise1_by fun d hd => bad _ e69 ?_ d hd⟩)
          cases hrr2 : rowW n line with
          | none => exact .inl rfl
          | some y =>
            obtain ⟨y1, y2⟩ := y
            refine .inr ⟨y1, y2, rfl, ?_⟩
            rw [hrow] at hrr2
            split at hrr2
            · cases hrr2
              exact hlt
            · cases hrr2
    obtain ⟨ah, f, y6, y7, y8, y9, rfl, x6, hS6, hV6, hF, hfl, hrr⟩ := hp
    rw [List.length_map, List.drop_length] at hrr
    have hrr : rdRows n ini Str.empty 1 [] = .inr f := hrr
    rw [hrr] at hrd
    have hrd2 : rdW z = if (ini ++ [last]).getLastD Str.empty = Str.empty then .inr (n, f) else .inl (ini ++ [last]).length := hrd
    rw [List.getLastD_concat] at hrd2
    have hL6 := x6 _ _ h3
    refine ⟨_, rfl, _, rfl, L, _, _, _, rfl, rfl, sq_of hL6, at_last, rfl, _, rfl, ?_⟩
    by_cases hlast : last = Str.empty
    · rw [if_pos hlast] at hrd2
      subst hlast
      refine iteF ?_
      have few : f.length < 64 := by
        rw [List.length_map] at hfl
        rw [List.length_append] at hfew
        omega
      refine ⟨_, rfl, _, rfl, n, D, f, rfl, by omega, nle, hV6, few, hF.nd, fun u H7 ys e7 hys hso hW => q n f hrd2 u H7 (x3.trans (x6.trans e7)) ⟨f, ys, hW, ⟨by omega, nle, few, hF.nd, fun e he => ?_, fun t => ?_, hys, hso⟩, Nat.le_refl _, fun t => rfl⟩⟩
      · have := (hF.nm e he).2.1
        omega
      · unfold wGet
        cases e : f.find? fun e => decide (e.1 = t) with
        | none => exact isP_alone n
        | some x => exact (hF.P x (List.mem_of_find?_eq_some e)).1
    · rw [if_neg hlast] at hrd2
      rw [show decide (V.str last = V.str (Str.ofString "")) = false from decide_eq_false fun h => hlast (V.str.inj h)]
      refine iteT ⟨_, rfl, L, _, rfl, .inl (sq_of hL6), raise1_by fun d hd => ?_⟩
      have := qx _ hrd2 d _ (fresh_back (x3.trans x6) hd) ((x3.trans x6).trans (Ex.new hd)) upd_same
      have hl : ((ini.map V.str ++ [V.str last]).length : Int) = ((ini ++ [last]).length : Int) := by
        rw [List.length_append, List.length_append, List.length_map]
        rfl
      rw [hl]
      exact this
end
end Eyes

set_option Elab.async false
set_option linter.all false
set_option maxRecDepth 100000
set_option maxHeartbeats 4000000
/-! The law's own judge of names. -/
namespace Eyes
open PySem PySem.Spec PyProof.Rows L2 Evl TL
theorem dp_signs {K : PySem.W.Frag} {H : Hp} : ∀ l : List Nat, DpAll K H (l.map fun c => V.str ⟨#[c]⟩) (l.map fun c => .str ⟨#[c]⟩)
  | [] => .nil
  | _ :: l => .cons (.str _) (dp_signs l)
theorem shaped_signs {l : List Nat} (h : ∀ c ∈ l, c < 1114112) : SeqAt.shaped (.list (l.map fun c => .str ⟨#[c]⟩)) = true := by
  have h1 : PyData.canLay0 (.list (l.map fun c => .str ⟨#[c]⟩)) = true := by
    show PyData.canLayAll0 _ = true
    induction l with
    | nil => rfl
    | cons c l ih =>
      show (PyData.canLay0 (.str ⟨#[c]⟩) && PyData.canLayAll0 (l.map fun c => .str ⟨#[c]⟩)) = true
      rw [ih fun d hd => h d (List.mem_cons_of_mem _ hd), Bool.and_true]
      have hc := h c List.mem_cons_self
      simp [PyData.canLay0, PyData.strOk, hc]
  have h2 : PyData.depth (.list (l.map fun c => .str ⟨#[c]⟩)) ≤ 64 := by
    have : PyData.depthAll (l.map fun c => PyData.str ⟨#[c]⟩) = 0 := by
      clear h h1
      induction l with
      | nil => rfl
      | cons c l ih =>
        show max (PyData.depth (.str ⟨#[c]⟩)) _ = 0
        rw [ih]
        rfl
    show PyData.depthAll _ + 1 ≤ 64
    rw [this]
    decide
  unfold SeqAt.shaped
  rw [h1, decide_eq_true h2]
  rfl

section
variable {P : Program} {w : World} {K : PySem.W.Frag} {mg : Str → Option Value} {base : Heap} {AA : Adr}
theorem ok_law_is_title (T : Txt K mg AA) : Pr P w K mg base "_law_is_title" s_law_is_title p_law_is_title 1 (spName K) := by
  refine pr_mk T.f_law_is_title sc_law_is_title (fun vs H Q E h => ?_) (fun f cdv A outer s H vs Q E hr h => ?_)
  · obtain ⟨v, k, rfl, _⟩ := h
    rfl
  · obtain ⟨v, k, rfl, hk, q⟩ := h
    obtain ⟨t, ht, hs, hi, hb⟩ := hk.ty
    refine ⟨_, (pss_cons (ps_if (PW.pt (pw_or (pt_not (pt_val (pe_callB (call_isiK (K := K) rfl) (by rfl) T.n_isinstance PyProof.Rows.boot_isinstance (pa_cons (pv 0) (pa_cons (pe_bltn (v := .ty "str") (by rfl) T.n_str (by decide +kernel) rfl) pa_nil))))) (pw_or (pt_cmpR op_lt (pe_callB call_len_str (by rfl) T.n_len PySem.boot_len (pa_cons (pv 0) pa_nil)) pe_int (nomark _)) (pw_or1 (pt_cmpR op_gt (pe_callB call_len_str (by rfl) T.n_len PySem.boot_len (pa_cons (pv 0) pa_nil)) pe_int (nomark _))))))
      (pss_one (ps_ret pe_bl))
      pss_nil)
      (pss_one (ps_ret (pe_cmpR (op_eqD hr.units) (pe_lc (own := [("_law_sign", 1)]) (g := gName 1) rfl sc_law_is_title.nd (pi_str (pv 0)) (blkOk_by (own := [("_law_sign", 1)]) (N := n_law_is_title) (sc := defScope s_law_is_title) (by decide +kernel)) (fun _ _ _ _ _ => (pg_name (i := 1) sc_law_is_title.nd rfl (.inl rfl))) (fun _ _ _ _ _ => (pts_one (pt_cmpR op_notIn_sign (pv 1) pe_str rfl))) (fun _ _ _ _ _ => (pv 1))) (pe_lst pa_nil) (nomark _))))), ?_⟩
    refine ⟨_, rfl, v, .ty "str", _, _, _, rfl, .ty _, ht, hs, _, rfl, ?_⟩
    cases k with
    | i n => exact iteT (iteT (q _ (Ex.refl _)))
    | b c => exact iteT (iteT (q _ (Ex.refl _)))
    | o => exact iteT (iteT (q _ (Ex.refl _)))
    | s z =>
      obtain ⟨rfl, hz, hz2⟩ := hk
      refine iteF ?_
      -- len(thing) < 1 or len(thing) > 6
      refine ⟨_, rfl, z, rfl, sz_of (by omega), z.length, 1, rfl, rfl, _, rfl, ite2 (fun h1 => ?_) (fun h1 => ?_)⟩
      · have h1 : ¬ 1 ≤ z.length := by have := of_decide_eq_true h1; omega
        have e : nameK (.s z) = false := by
          show nameS z = false
          unfold nameS
          rw [decide_eq_false h1]
          rfl
        rw [e] at q
        exact iteT (q _ (Ex.refl _))
      · have h1 : 1 ≤ z.length := Nat.le_of_not_lt fun h => h1 (decide_eq_true (by omega))
        refine ⟨_, rfl, z, rfl, sz_of (by omega), z.length, 6, rfl, rfl, _, rfl, ite2 (fun h6 => ?_) (fun h6 => ?_)⟩
        · have h6 : ¬ z.length ≤ 6 := by have := of_decide_eq_true h6; omega
          have e : nameK (.s z) = false := by
            show nameS z = false
            unfold nameS
            rw [decide_eq_false h6, Bool.and_false]
            rfl
          rw [e] at q
          exact q _ (Ex.refl _)
        · have h6 : z.length ≤ 6 := Nat.le_of_not_lt fun h => h6 (decide_eq_true (by omega))
          -- [sign for sign in thing if sign not in ..] == []
          refine ⟨_, rfl, z, rfl, fun D hD => lc_it (walk_str (z := z)) (fun i H' => H D = none ∧ Ex H H' ∧ H' D = some (.lst (((z.cps.toList.take i).filter fun c => !decide (c ∈ letters.cps.toList)).map fun c => V.str ⟨#[c]⟩))) ⟨hD, Ex.new hD, upd_same⟩ (fun _ _ _ _ => True.intro) (fun i v H3 H4 hi hp hy => ?_) (fun H' hp => ?_)⟩
          · obtain ⟨rfl, c, hc, rfl⟩ := hy
            obtain ⟨h1', h2', h3'⟩ := hp
            have hc' : z.cps.toList[i]? = some c := by rw [Array.getElem?_toList]; exact hc
            refine ⟨rfl, _, rfl, c, letters, rfl, rfl, _, rfl, ite2 (fun hb => ?_) (fun hb => ?_)⟩
            · refine ⟨_, rfl, _, h3', ?_, h1', h2'.mut h1', ?_⟩
              · rw [List.length_map]
                refine sz_lt (Nat.lt_of_le_of_lt (List.length_filter_le _ _) ?_)
                rw [List.length_take]
                have : z.cps.size = z.length := rfl
                omega
              · rw [upd_same, List.take_add_one, hc', List.filter_append, List.map_append]
                show _ = some (HO.lst (_ ++ List.map _ (List.filter _ [c])))
                rw [List.filter_cons, if_pos hb]
                rfl
            · refine ⟨h1', h2', ?_⟩
              rw [h3', List.take_add_one, hc', List.filter_append, List.map_append]
              show _ = some (HO.lst (_ ++ List.map _ (List.filter _ [c])))
              rw [List.filter_cons, if_neg hb]
              show _ = some (HO.lst (_ ++ []))
              rw [List.append_nil]
          · rw [List.take_of_length_le (by rw [Array.length_toList]; exact Nat.le_refl _)] at hp
            obtain ⟨h1', h2', h3'⟩ := hp
            refine ⟨by show 0 ≤ sizeLine; decide, fun p2 hp2 => ?_⟩
            have ex := h2'.trans (Ex.new (o := HO.lst []) hp2)
            have hD3 : (upd H' p2 (.lst [])) D = some (.lst ((z.cps.toList.filter fun c => !decide (c ∈ letters.cps.toList)).map fun c => V.str ⟨#[c]⟩)) := Ex.new hp2 _ _ h3'
            have hok : ∀ c ∈ z.cps.toList.filter fun c => !decide (c ∈ letters.cps.toList), c < 1114112 := fun c hc => Nat.lt_trans (hz2 c (List.mem_filter.mp hc).1) (by decide)
            refine ⟨.list ((z.cps.toList.filter fun c => !decide (c ∈ letters.cps.toList)).map fun c => .str ⟨#[c]⟩), .list [], .lst (sq_of hD3) (dp_signs _), .lst (sq_of upd_same) .nil, shaped_signs hok, by decide +kernel, ?_⟩
            have e : PyData.eqv (.list ((z.cps.toList.filter fun c => !decide (c ∈ letters.cps.toList)).map fun c => .str ⟨#[c]⟩)) (.list []) = nameK (.s z) := by
              show _ = nameS z
              unfold nameS
              rw [decide_eq_true h1, decide_eq_true h6]
              generalize z.cps.toList = l
              induction l with
              | nil => rfl
              | cons c l ih =>
                rw [List.filter_cons, List.all_cons]
                by_cases hc : c ∈ letters.cps.toList
                · rw [decide_eq_true hc]
                  simpa using ih
                · rw [decide_eq_false hc]
                  simp [PyData.eqv, PyData.eqvAll]
            rw [e]
            exact q _ ex
end
end Eyes

set_option Elab.async false
set_option linter.all false
set_option maxRecDepth 100000
set_option maxHeartbeats 4000000
/-! The law's own reader of worlds: numbers. -/
namespace Eyes
open PySem PySem.Spec PyProof.Rows L2 Evl TL
open PySem.NumText (digitsVal)
def numV (m : Nat) : V := if m = 0 then .non else .int (m : Nat)
def spLMany : Sp := fun vs H Q _ => ∃ w : Str, vs = [.str w] ∧ w.length ≤ 15000 ∧ (∀ c ∈ tl w, c < 128) ∧ ∀ H', Ex H H' → Q (numV (idxS natS 2400 w)) H'
theorem digs : (Str.ofString "0123456789").cps.toList = (List.range 10).map (· + 48) := by decide +kernel
theorem digs_mem {c : Nat} : c ∈ (Str.ofString "0123456789").cps.toList ↔ 48 ≤ c ∧ c ≤ 57 := by
  rw [digs, List.mem_map]
  constructor
  · rintro ⟨k, hk, rfl⟩
    rw [List.mem_range] at hk
    omega
  · intro h
    exact ⟨c - 48, List.mem_range.mpr (by omega), by omega⟩
theorem head_at {z : Str} {c : Nat} {r : List Nat} (e : tl z = c :: r) : atI z.cps.toList 0 = some c := by
  show atI (tl z) 0 = some c
  rw [e]
  unfold atI ixN
  rw [if_pos (by decide), if_pos (by show (0 : Int) < ((r.length + 1 : Nat) : Int); omega)]
  rfl
theorem no_eqv (l : List Nat) : PyData.eqv (.list (l.map fun c => .str ⟨#[c]⟩)) (.list []) = decide (l = []) := by
  cases l <;> rfl
section
variable {P : Program} {w : World} {K : PySem.W.Frag} {mg : Str → Option Value} {base : Heap} {AA : Adr}
theorem ok_law_many (T : Txt K mg AA) : Pr P w K mg base "_law_many" s_law_many p_law_many 3 spLMany := by
  refine pr_mk T.f_law_many sc_law_many (fun vs H Q E h => ?_) (fun f cdv A outer s H vs Q E hr h => ?_)
  · obtain ⟨z, rfl, _⟩ := h
    rfl
  · obtain ⟨z, rfl, hl, ha, q⟩ := h
    refine ⟨_, (pss_cons (ps_if (PW.pt (pw_or (pt_cmpR op_eq (pv 0) pe_str (nomark _)) (pw_or (pt_cmpR op_gt (pe_callB call_len_str (by rfl) T.n_len PySem.boot_len (pa_cons (pv 0) pa_nil)) pe_int (nomark _)) (pw_or (pt_cmpR op_eq (pe_ix ix_str (pv 0) pe_int (fun _ _ => rfl)) pe_str (nomark _)) (pw_or1 (pt_cmpR (op_neD hr.units) (pe_lc (own := [("_law_sign", 1)]) (g := gName 1) rfl sc_law_many.nd (pi_str (pv 0)) (blkOk_by (own := [("_law_sign", 1)]) (N := n_law_many) (sc := defScope s_law_many) (by decide +kernel)) (fun _ _ _ _ _ => (pg_name (i := 1) sc_law_many.nd rfl (.inl rfl))) (fun _ _ _ _ _ => (pts_one (pt_cmpR op_notIn_sign (pv 1) pe_str rfl))) (fun _ _ _ _ _ => (pv 1))) (pe_lst pa_nil) (nomark _)))))))
      (pss_one (ps_ret pe_non))
      pss_nil)
      (pss_one (ps_ret (pe_ifExp (pt_cmpR op_le (pe_callTy call_int_str (by rfl) T.n_int PyProof.Rows.boot_int (pa_cons (pv 0) pa_nil)) pe_int (nomark _)) (pe_callTy call_int_str (by rfl) T.n_int PyProof.Rows.boot_int (pa_cons (pv 0) pa_nil)) pe_non)))), ?_⟩
    have big : 16777216 ≤ sizeLine := by rw [sizeLine_eq]; decide
    refine ⟨_, rfl, rfl, _, rfl, ite2 (fun h1 => ?_) (fun h1 => ?_)⟩
    · have e : z = Str.ofString "" := V.str.inj (of_decide_eq_true h1)
      have := q H (Ex.refl _)
      rw [many_no (.inl (by rw [e]; rfl))] at this
      exact iteT this
    have h0 : tl z ≠ [] := fun e => h1 (decide_eq_true (congrArg V.str (TL.ext_tl e)))
    refine ⟨_, rfl, z, rfl, by omega, z.length, 4, rfl, rfl, _, rfl, ite2 (fun h4 => ?_) (fun h4 => ?_)⟩
    · have h4 := of_decide_eq_true h4
      have := q H (Ex.refl _)
      rw [many_no (.inr (.inl (by rw [← len_tl]; omega)))] at this
      exact iteT this
    have h4 : z.length ≤ 4 := Nat.le_of_not_lt fun h => h4 (decide_eq_true (by omega))
    obtain ⟨c0, r0, e0⟩ := List.exists_cons_of_ne_nil h0
    refine ⟨_, rfl, z, 0, c0, rfl, rfl, by omega, head_at e0, rfl, _, rfl, ite2 (fun hz => ?_) (fun hz => ?_)⟩
    · have e : c0 = 48 := by
        have := V.str.inj (of_decide_eq_true hz)
        have := congrArg tl this
        exact (List.cons.inj this).1
      have := q H (Ex.refl _)
      rw [many_no (.inr (.inr (.inl (by rw [e0, e]; rfl))))] at this
      exact iteT this
    have hz : (tl z).head? ≠ some 48 := fun h => hz (decide_eq_true (by
      rw [e0] at h
      rw [Option.some.inj h]
      rfl))
    have hsz : z.cps.size = z.length := rfl
    refine ⟨_, rfl, z, rfl, fun D hD => lc_it (walk_str (z := z)) (fun i H' => H D = none ∧ Ex H H' ∧ H' D = some (.lst (((z.cps.toList.take i).filter fun c => !decide (c ∈ (Str.ofString "0123456789").cps.toList)).map fun c => V.str ⟨#[c]⟩))) ⟨hD, Ex.new hD, upd_same⟩ (fun _ _ _ _ => True.intro) (fun i v H3 H4 hi hp hy => ?_) (fun H' hp => ?_)⟩
    · obtain ⟨rfl, c, hc, rfl⟩ := hy
      obtain ⟨h1', h2', h3'⟩ := hp
      have hc' : z.cps.toList[i]? = some c := by rw [Array.getElem?_toList]; exact hc
      refine ⟨rfl, _, rfl, c, (Str.ofString "0123456789"), rfl, rfl, _, rfl, ite2 (fun hb => ?_) (fun hb => ?_)⟩
      · refine ⟨_, rfl, _, h3', ?_, h1', h2'.mut h1', ?_⟩
        · rw [List.length_map]
          refine sz_lt (Nat.lt_of_le_of_lt (List.length_filter_le _ _) ?_)
          rw [List.length_take]
          omega
        · rw [upd_same, List.take_add_one, hc', List.filter_append, List.map_append]
          show _ = some (HO.lst (_ ++ List.map _ (List.filter _ [c])))
          rw [List.filter_cons, if_pos hb]
          rfl
      · refine ⟨h1', h2', ?_⟩
        rw [h3', List.take_add_one, hc', List.filter_append, List.map_append]
        show _ = some (HO.lst (_ ++ List.map _ (List.filter _ [c])))
        rw [List.filter_cons, if_neg hb]
        show _ = some (HO.lst (_ ++ []))
        rw [List.append_nil]
    rw [List.take_of_length_le (by rw [Array.length_toList]; exact Nat.le_refl _)] at hp
    obtain ⟨h1', h2', h3'⟩ := hp
    refine ⟨by show 0 ≤ sizeLine; decide, fun p2 hp2 => ?_⟩
    have ex := h2'.trans (Ex.new (o := HO.lst []) hp2)
    have hD3 : (upd H' p2 (.lst [])) D = _ := Ex.new hp2 _ _ h3'
    have hok : ∀ c ∈ z.cps.toList.filter fun c => !decide (c ∈ (Str.ofString "0123456789").cps.toList), c < 1114112 := fun c hc => Nat.lt_trans (ha c (List.mem_filter.mp hc).1) (by decide)
    refine ⟨.list ((z.cps.toList.filter fun c => !decide (c ∈ (Str.ofString "0123456789").cps.toList)).map fun c => .str ⟨#[c]⟩), .list [], .lst (sq_of hD3) (dp_signs _), .lst (sq_of upd_same) .nil, shaped_signs hok, by decide +kernel, ?_⟩
    rw [no_eqv]
    have q := q _ ex
    by_cases hf : (z.cps.toList.filter fun c => !decide (c ∈ (Str.ofString "0123456789").cps.toList)) = []
    · rw [decide_eq_true hf]
      refine ⟨_, rfl, iteF ?_⟩
      have hd : ∀ c ∈ tl z, 48 ≤ c ∧ c ≤ 57 := fun c hc => by
        refine digs_mem.mp (Decidable.byContradiction fun h => ?_)
        have : c ∈ z.cps.toList.filter fun c => !decide (c ∈ (Str.ofString "0123456789").cps.toList) := List.mem_filter.mpr ⟨hc, by rw [decide_eq_false h]; rfl⟩
        rw [hf] at this
        cases this
      have hi := PySem.intText_digits (x := z) hd h0 (by omega)
      rw [many_yes h0 hd hz] at q
      have hp : 0 < digitsVal (tl z) := by
        rw [e0]
        refine PySem.NumText.digitsVal_pos ?_
        have h48 := (hd c0 (by rw [e0]; exact .head _)).1
        have : c0 ≠ 48 := fun h => hz (by rw [e0, h]; rfl)
        omega
      refine ⟨_, rfl, z, _, rfl, hi, by omega, _, _, rfl, rfl, _, rfl, ite2 (fun hb => ?_) (fun hb => ?_)⟩
      · have hb : digitsVal (tl z) ≤ 2400 := Int.ofNat_le.mp (of_decide_eq_true hb)
        rw [if_pos hb] at q
        unfold numV at q
        rw [if_neg (by omega)] at q
        exact ⟨_, rfl, z, _, rfl, hi, by omega, q⟩
      · have hb : ¬ digitsVal (tl z) ≤ 2400 := fun h => hb (decide_eq_true (Int.ofNat_le.mpr h))
        rw [if_neg hb] at q
        exact q
    · rw [decide_eq_false hf]
      refine ⟨_, rfl, iteT ?_⟩
      obtain ⟨c, hc⟩ := List.exists_mem_of_ne_nil _ hf
      obtain ⟨hc1, hc2⟩ := List.mem_filter.mp hc
      rw [many_no (.inr (.inr (.inr ⟨c, hc1, fun h => by
        rw [decide_eq_true (digs_mem.mpr h)] at hc2
        cases hc2⟩)))] at q
      exact q
end
end Eyes

set_option Elab.async false
set_option linter.all false
set_option maxRecDepth 100000
set_option maxHeartbeats 4000000
namespace Eyes
open PySem PySem.Spec PyProof.Rows L2 Evl TL
/-! ### met, together, judged pairs -/
def spTogether : Sp := fun vs H Q _ => ∃ n : Nat, vs = [.int n] ∧ 1 ≤ n ∧ n ≤ 1000 ∧ ∀ r H', Ex H H' → H r = none → H' r = some (.tup (nvs (List.replicate n 1))) → Q (.ref r) H'
def keys2 (p q : List Nat) (n : Nat) : List (List L2.Key) := (List.range n).map fun k => [.inl (itm p (k + 1) : Int), .inl (itm q (k + 1) : Int)]
def spMet (K : PySem.W.Frag) : Sp := fun vs H Q _ => ∃ (n : Nat) (l a b : Addr) (p q : List Nat), vs = [.ref l] ∧ SqL K H l [.ref a, .ref b] ∧ SqT K H a (nvs p) ∧ SqT K H b (nvs q) ∧ IsP n p ∧ IsP n q ∧ 1 ≤ n ∧ n ≤ 4096 ∧ ∀ r H', Ex H H' → H r = none → H' r = some (.tup (nvs (metN n [p, q]))) → Q (.ref r) H'
def pairD (n : Nat) (d : PyData) : Bool := match d with
  | .tuple [a, b] => numD a 1 n && numD b 1 n
  | _ => false
section
variable {P : Program} {w : World} {K : PySem.W.Frag} {mg : Str → Option Value} {base : Heap} {AA : Adr}
def spPair (K : PySem.W.Frag) : Sp := fun vs H Q _ => ∃ (v : V) (d : PyData) (n : Nat), vs = [v, .int n] ∧ Rep H v d ∧ ∀ H', Ex H H' → Q (.bl (pairD n d)) H'
def okV (d : PyData) : Prop := d.depth < 5 ∧ wid d ≤ 4096 ∧ PyData.canLay0 d = true
theorem layAll_mem : ∀ {ds : List PyData} {e : PyData}, PyData.canLayAll0 ds = true → e ∈ ds → PyData.canLay0 e = true
  | [], _, _, h => by cases h
  | x :: xs, e, h, he => by
    have h : (PyData.canLay0 x && PyData.canLayAll0 xs) = true := h
    rw [Bool.and_eq_true] at h
    rcases List.mem_cons.mp he with rfl | he
    · exact h.1
    · exact layAll_mem h.2 he
theorem okV.item {ds : List PyData} {e : PyData} (h : okV (.tuple ds) ∨ okV (.list ds)) (he : e ∈ ds) : okV e := by
  obtain ⟨i, hi⟩ := List.getElem?_of_mem he
  have a := depth_get hi
  have b := wid_get hi
  rcases h with ⟨h1, h2, h3⟩ | ⟨h1, h2, h3⟩
  all_goals
    simp only [PyData.depth] at h1
    simp only [wid] at h2
    exact ⟨by omega, by omega, layAll_mem h3 he⟩
theorem okV.shaped {d : PyData} (h : okV d) : SeqAt.shaped d = true := by
  unfold SeqAt.shaped
  rw [h.2.2, decide_eq_true (by have := h.1; omega)]
  rfl
theorem okV.part {ds : List PyData} (h : okV (.tuple ds)) : ds.length ≤ 4096 ∧ ∀ e ∈ ds, SeqAt.shaped e = true := by
  have h2 := h.2.1
  simp only [wid] at h2
  exact ⟨by omega, fun e he => (okV.item (.inl h) he).shaped⟩
def lenD (d : PyData) : Nat := match d with
  | .tuple ds => ds.length
  | _ => 0
def refP (v1 : V) (d1 : PyData) (v2 : V) (d2 : PyData) : Option V := if partD d1 = true then (if partD d2 = true ∧ lenD d1 = lenD d2 then none else some v2) else some v1
def spTwoP (AA : Adr) (good : Nat → List Nat → List Nat → Hp → VK → Prop) : Sp := fun vs H Q E => ∃ v1 d1 v2 d2, vs = [v1, v2] ∧ Rep H v1 d1 ∧ okV d1 ∧ Rep H v2 d2 ∧ okV d2 ∧
  ((∃ n p q, d1 = .tuple (ndats p) ∧ d2 = .tuple (ndats q) ∧ 1 ≤ n ∧ n ≤ 4096 ∧ IsP n p ∧ IsP n q ∧ good n p q H Q) ∨
    ∃ v, refP v1 d1 v2 d2 = some v ∧ ∀ d H', H d = none → Ex H H' → H' d = some (.xd [("value", v)]) → E (.ref AA.InvalidParting) (some d) H')
end
end Eyes

set_option Elab.async false
set_option linter.all false
set_option maxRecDepth 100000
set_option maxHeartbeats 4000000
/-! The law's word for a case. -/
namespace Eyes
open PySem PySem.Spec PyProof.Rows L2 Evl TL
section
variable {P : Program} {w : World} {K : PySem.W.Frag} {mg : Str → Option Value} {base : Heap} {AA : Adr}
theorem ok_law_is_case (T : Txt K mg AA) : Pr P w K mg base "_law_is_case" s_law_is_case p_law_is_case 1 (fun vs H Q _ => ∃ (v : V) (d : PyData) (n : Int), vs = [v, .int n] ∧ Rep H v d ∧ Q (.bl (numD d 1 n)) H) := by
  refine pr_mk T.f_law_is_case sc_law_is_case (fun vs H Q E h => ?_) (fun f cdv A outer s H vs Q E hr h => ?_)
  · obtain ⟨v, d, n, rfl, _⟩ := h
    rfl
  · obtain ⟨v, d, n, rfl, hv, q⟩ := h
    refine ⟨_, (pss_one (ps_ret (pe_and (pe_callB (call_isiK (K := K) rfl) (by rfl) T.n_isinstance PyProof.Rows.boot_isinstance (pa_cons (pv 0) (pa_cons (pe_bltn (v := .ty "int") (by rfl) T.n_int (by decide +kernel) rfl) pa_nil))) (pe_and (pe_not (pe_callB (call_isiK (K := K) rfl) (by rfl) T.n_isinstance PyProof.Rows.boot_isinstance (pa_cons (pv 0) (pa_cons (pe_bltn (v := .ty "bool") (by rfl) T.n_bool (by decide +kernel) rfl) pa_nil)))) (pe_and (pe_cmpR op_ge (pv 0) pe_int (nomark _)) (pe_one (pe_cmpR op_le (pv 0) (pv 1) (nomark _)))))))), ?_⟩
    cases d with
    | int i =>
      cases hv
      refine ⟨_, rfl, .int i, .ty "int", _, _, true, rfl, .ty _, (Rep.int (H := H) i).ty, kit_ty (a := "int") (by decide +kernel), _, rfl, iteT ⟨_, rfl, .int i, .ty "bool", _, _, false, rfl, .ty _, (Rep.int (H := H) i).ty, kit_ty (a := "int") (by decide +kernel), _, rfl, _, rfl, iteT ?_⟩⟩
      have q : Q (V.bl (decide (1 ≤ i) && decide (i ≤ n))) H := q
      refine ⟨_, rfl, i, 1, rfl, rfl, _, rfl, ite2 (fun h1 => ?_) (fun h1 => ?_)⟩
      · rw [h1] at q
        exact ⟨_, rfl, _, rfl, i, n, rfl, rfl, q⟩
      · rw [show decide (1 ≤ i) = false by cases e : decide (1 ≤ i) with | true => exact absurd e h1 | false => rfl] at q
        exact q
    | bool z =>
      cases hv
      exact ⟨_, rfl, .bl z, .ty "int", _, _, true, rfl, .ty _, (Rep.bl (H := H) z).ty, kit_ty (a := "bool") (by decide +kernel), _, rfl, iteT ⟨_, rfl, .bl z, .ty "bool", _, _, true, rfl, .ty _, (Rep.bl (H := H) z).ty, kit_ty (a := "bool") (by decide +kernel), _, rfl, _, rfl, iteF q⟩⟩
    | none => exact ⟨_, rfl, v, .ty "int", _, _, false, rfl, .ty _, hv.ty, kit_ty (a := "NoneType") (by decide +kernel), _, rfl, iteF q⟩
    | str z => exact ⟨_, rfl, v, .ty "int", _, _, false, rfl, .ty _, hv.ty, kit_ty (a := "str") (by decide +kernel), _, rfl, iteF q⟩
    | list z => exact ⟨_, rfl, v, .ty "int", _, _, false, rfl, .ty _, hv.ty, kit_ty (a := "list") (by decide +kernel), _, rfl, iteF q⟩
    | tuple z => exact ⟨_, rfl, v, .ty "int", _, _, false, rfl, .ty _, hv.ty, kit_ty (a := "tuple") (by decide +kernel), _, rfl, iteF q⟩
    | dict z => exact ⟨_, rfl, v, .ty "int", _, _, false, rfl, .ty _, hv.ty, kit_ty (a := "dict") (by decide +kernel), _, rfl, iteF q⟩
end
end Eyes

set_option Elab.async false
set_option linter.all false
set_option maxRecDepth 100000
set_option maxHeartbeats 4000000
/-! The law's own judge of partings. -/
namespace Eyes
open PySem PySem.Spec PyProof.Rows L2 Evl TL
section
variable {P : Program} {w : World} {K : PySem.W.Frag} {mg : Str → Option Value} {base : Heap} {AA : Adr}
theorem ok_law_is_rows (T : Txt K mg AA) : Pr P w K mg base "_law_is_rows" s_law_is_rows p_law_is_rows 2 (fun vs H Q _ => ∃ (v : V) (d : PyData), vs = [v] ∧ Rep H v d ∧ okV d ∧ Q (.bl (partD d)) H) := by
  refine pr_mk T.f_law_is_rows sc_law_is_rows (fun vs H Q E h => ?_) (fun f cdv A outer s H vs Q E hr h => ?_)
  · obtain ⟨v, d, rfl, _⟩ := h
    rfl
  · obtain ⟨v, d, rfl, hv, ho, q⟩ := h
    refine ⟨_, (pss_cons (ps_if (PW.pt (pw_or (pt_not (pt_val (pe_callB (call_isiK (K := K) rfl) (by rfl) T.n_isinstance PyProof.Rows.boot_isinstance (pa_cons (pv 0) (pa_cons (pe_bltn (v := .ty "tuple") (by rfl) T.n_tuple (by decide +kernel) rfl) pa_nil))))) (pw_or1 (pt_cmpR op_eq (pe_callB (call_len_seqK (K := K) rfl) (by rfl) T.n_len PySem.boot_len (pa_cons (pv 0) pa_nil)) pe_int (nomark _)))))
      (pss_one (ps_ret pe_bl))
      pss_nil)
      (pss_cons (ps_for PassesOwn.never rfl (pi_range1 (by rfl) T.n_range (pa_cons (pe_callB (call_len_seqK (K := K) rfl) (by rfl) T.n_len PySem.boot_len (pa_cons (pv 0) pa_nil)) pa_nil)) (pg_name (i := 1) sc_law_is_rows.nd rfl (.inl rfl))
      (pss_one (ps_if (PW.pt (pw_or (pt_not (pt_val (pcall (ok_law_is_case T) hr (pa_cons (pe_ix (ix_tupK (K := K) rfl) (pv 0) (pv 1) (fun _ _ => rfl)) (pa_cons (pe_op op_add (pv 1) pe_int) pa_nil))))) (pw_or1 (pt_cmpR (op_neD hr.units) (pe_ix (ix_tupK (K := K) rfl) (pv 0) (pe_op op_sub (pe_ix (ix_tupK (K := K) rfl) (pv 0) (pv 1) (fun _ _ => rfl)) pe_int) (fun _ _ => rfl)) (pe_ix (ix_tupK (K := K) rfl) (pv 0) (pv 1) (fun _ _ => rfl)) (nomark _)))))
      (pss_one (ps_ret pe_bl))
      pss_nil)))
      (pss_one (ps_ret pe_bl)))), ?_⟩
    cases d with
    | tuple ds =>
      obtain ⟨hl, hsh⟩ := ho.part
      cases hv with
      | @tup a xs _ hx hR =>
      have hlen := hR.length
      refine ⟨_, rfl, .ref a, .ty "tuple", _, _, true, rfl, .ty _, (Rep.tup hx hR).ty, kit_ty (a := "tuple") (by decide +kernel), _, rfl, iteF ?_⟩
      refine ⟨_, rfl, a, xs, rfl, .inr (st_of hx), rfl, _, rfl, ite2 (fun h0 => ?_) (fun h0 => ?_)⟩
      · have h1 : V.int (xs.length : Int) = V.int 0 := of_decide_eq_true h0
        injection h1 with h1
        have h2 : ds = [] := List.length_eq_zero_iff.mp (by omega)
        rw [h2] at q
        exact q
      · have h2 : ds ≠ [] := fun z => h0 (by
          rw [z] at hlen
          rw [hlen]
          rfl)
        have hpd : partD (.tuple ds) = (List.range xs.length).all fun k => itemD ds k := by
          show (decide (ds ≠ []) && _) = _
          rw [decide_eq_true h2, Bool.true_and, hlen]
        refine ⟨_, rfl, a, xs, rfl, .inr (st_of hx), _, rfl, by omega, by omega, ?_⟩
        rw [show ((xs.length : Nat) : Int).toNat = xs.length by omega]
        refine for_it walk_range (fun i σ H' => H' = H ∧ (∃ y, σ = [some (.ref a), y]) ∧ ∀ j, j < i → itemD ds j = true) ⟨rfl, ⟨none, rfl⟩, fun j hj => absurd hj (Nat.not_lt_zero _)⟩ (fun _ _ _ _ _ => trivial) (fun i v σ H3 H4 hi hp hy => ?_) (fun σ H' hp => ?_)
        · obtain ⟨rfl, ⟨y, rfl⟩, hpre⟩ := hp
          obtain ⟨rfl, rfl⟩ := hy
          obtain ⟨d, hd, hv⟩ := hR.get (List.getElem?_eq_getElem hi)
          have hxi : xs[i]? = some xs[i] := List.getElem?_eq_getElem hi
          generalize xs[i] = v at hv hxi
          have z0 : (0 : Int) + (i : Int) = (i : Int) := Int.zero_add _
          have hat : atI xs (0 + (i : Int)) = some v := by
            rw [z0]
            exact atI_nat hxi
          have stop : itemD ds i = false → Q (.bl false) H4 := fun hf => by
            have : partD (.tuple ds) = false := by
              rw [hpd, ← Bool.not_eq_true, List.all_eq_true]
              intro hall
              have := hall i (List.mem_range.mpr hi)
              rw [hf] at this
              cases this
            rw [this] at q
            exact q
          have next : itemD ds i = true → (H4 = H4 ∧ (∃ y, [some (V.ref a), some (V.int (0 + (i : Int)))] = [some (V.ref a), y]) ∧ ∀ j, j < i + 1 → itemD ds j = true) := fun ht => ⟨rfl, ⟨_, rfl⟩, fun j hj => by
            rcases Nat.lt_or_ge j i with z | z
            · exact hpre j z
            · obtain rfl : j = i := by omega
              exact ht⟩
          refine ⟨_, rfl, _, rfl, a, _, _, v, rfl, rfl, st_of hx, hat, _, rfl, _, 1, rfl, rfl, v, d, _, rfl, hv, ?_⟩
          rw [z0]
          cases hn : numD d 1 ((i : Int) + 1) with
          | false => exact ⟨_, rfl, iteT (iteT (stop (itemD_no hd hn)))⟩
          | true =>
            cases d with
            | int m =>
              cases hv
              have hm : 1 ≤ m ∧ m ≤ (i : Int) + 1 := by
                have h : (decide (1 ≤ m) && decide (m ≤ (i : Int) + 1)) = true := hn
                rw [Bool.and_eq_true] at h
                exact ⟨of_decide_eq_true h.1, of_decide_eq_true h.2⟩
              have hj : (m - 1).toNat < xs.length := by omega
              obtain ⟨e, he, hve⟩ := hR.get (List.getElem?_eq_getElem hj)
              have hxe : xs[(m - 1).toNat]? = some xs[(m - 1).toNat] := List.getElem?_eq_getElem hj
              generalize xs[(m - 1).toNat] = v2 at hve hxe
              have hit := itemD_int hd hn he
              refine ⟨_, rfl, iteF ?_⟩
              refine ⟨_, rfl, _, rfl, _, rfl, a, _, _, .int m, rfl, rfl, st_of hx, hat, m, 1, rfl, rfl, a, _, _, v2, rfl, rfl, st_of hx, at_of' (by omega) hxe, _, rfl, _, rfl, a, _, _, .int m, rfl, rfl, st_of hx, hat, ?_⟩
              refine ⟨e, .int m, hve.dp, .int m, hsh e (List.mem_of_getElem? he), rfl, _, rfl, ?_⟩
              cases hq : PyData.eqv e (.int m) with
              | true => exact iteF (next (by rw [hit, hq]))
              | false => exact iteT (stop (by rw [hit, hq]))
            | _ => cases hn
        · obtain ⟨rfl, ⟨y, rfl⟩, hpre⟩ := hp
          have : partD (.tuple ds) = true := by
            rw [hpd, List.all_eq_true]
            exact fun j hj => hpre j (List.mem_range.mp hj)
          rw [this] at q
          exact q
    | none => exact ⟨_, rfl, v, .ty "tuple", _, _, false, rfl, .ty _, hv.ty, kit_ty (a := "NoneType") (by decide +kernel), _, rfl, iteT (iteT q)⟩
    | bool z => exact ⟨_, rfl, v, .ty "tuple", _, _, false, rfl, .ty _, hv.ty, kit_ty (a := "bool") (by decide +kernel), _, rfl, iteT (iteT q)⟩
    | int z => exact ⟨_, rfl, v, .ty "tuple", _, _, false, rfl, .ty _, hv.ty, kit_ty (a := "int") (by decide +kernel), _, rfl, iteT (iteT q)⟩
    | str z => exact ⟨_, rfl, v, .ty "tuple", _, _, false, rfl, .ty _, hv.ty, kit_ty (a := "str") (by decide +kernel), _, rfl, iteT (iteT q)⟩
    | list z => exact ⟨_, rfl, v, .ty "tuple", _, _, false, rfl, .ty _, hv.ty, kit_ty (a := "list") (by decide +kernel), _, rfl, iteT (iteT q)⟩
    | dict z => exact ⟨_, rfl, v, .ty "tuple", _, _, false, rfl, .ty _, hv.ty, kit_ty (a := "dict") (by decide +kernel), _, rfl, iteT (iteT q)⟩
end
end Eyes

set_option Elab.async false
set_option linter.all false
set_option maxRecDepth 100000
set_option maxHeartbeats 4000000
/-! The law's own reader of worlds: rows. -/
namespace Eyes
open PySem PySem.Spec PyProof.Rows L2 Evl TL
def numDt (m : Nat) : PyData := if m = 0 then .none else .int (m : Nat)
theorem numDt_nats {ls : List Nat} (h : ∀ m ∈ ls, m ≠ 0) : ls.map numDt = ndats ls := by
  unfold ndats
  exact List.map_congr_left fun m hm => if_neg (h m hm)
theorem partD_num (ls : List Nat) : partD (.tuple (ls.map numDt)) = isPB ls := by
  by_cases h : ∀ m ∈ ls, m ≠ 0
  · rw [numDt_nats h, partD_nat]
  · have hb : isPB ls = false := by
      cases e : isPB ls with
      | false => rfl
      | true => exact absurd (fun m hm => by have := (isPB_in rfl e hm).1; omega) h
    rw [hb]
    cases e : partD (.tuple (ls.map numDt)) with
    | false => rfl
    | true =>
      obtain ⟨p, e2, _, _⟩ := partD_isP e
      have e2 := PyData.tuple.inj e2
      refine absurd (fun m hm hz => ?_) h
      have : numDt m ∈ ndats p := by
        rw [← e2]
        exact List.mem_map.mpr ⟨m, hm, rfl⟩
      obtain ⟨x, _, hx⟩ := List.mem_map.mp this
      unfold numDt at hx
      rw [if_pos hz] at hx
      cases hx
theorem reps_num {H : Hp} : ∀ ls : List Nat, Reps H (ls.map numV) (ls.map numDt)
  | [] => .nil
  | m :: ls => by
    refine .cons ?_ (reps_num ls)
    unfold numV numDt
    split
    · exact .non
    · exact .int _
theorem num_okV {ls : List Nat} (h : ls.length ≤ 4096) : okV (.tuple (ls.map numDt)) := by
  have key : ∀ l : List Nat, PyData.depthAll (l.map numDt) = 0 ∧ widAll (l.map numDt) = 0 ∧ PyData.canLayAll0 (l.map numDt) = true := fun l => by
    induction l with
    | nil => exact ⟨rfl, rfl, rfl⟩
    | cons m l ih =>
      obtain ⟨i1, i2, i3⟩ := ih
      have one : PyData.depth (numDt m) = 0 ∧ wid (numDt m) = 0 ∧ PyData.canLay0 (numDt m) = true := by
        unfold numDt
        split <;> exact ⟨rfl, rfl, rfl⟩
      obtain ⟨j1, j2, j3⟩ := one
      refine ⟨?_, ?_, ?_⟩
      · show max (PyData.depth (numDt m)) (PyData.depthAll (l.map numDt)) = 0
        rw [i1, j1]
        rfl
      · show max (wid (numDt m)) (widAll (l.map numDt)) = 0
        rw [i2, j2]
        rfl
      · show (PyData.canLay0 (numDt m) && PyData.canLayAll0 (l.map numDt)) = true
        rw [i3, j3]
        rfl
  obtain ⟨k1, k2, k3⟩ := key ls
  refine ⟨by simp only [PyData.depth]; omega, by simp only [wid]; rw [List.length_map]; omega, ?_⟩
  show PyData.canLayAll0 (ls.map numDt) = true
  exact k3
theorem rowW_law {n : Nat} (hn : n ≤ 2400) {line x : Str} {ws : List Str} (h : Txt.split line (Str.ofString " ") = x :: ws) : rowW n line = if nameK (.s x) = true ∧ ws.length = n ∧ isPB (ws.map (idxS natS 2400)) = true ∧ ws.map (idxS natS 2400) ≠ alone n then some (x, ws.map (idxS natS 2400)) else none := by
  unfold rowW
  rw [h]
  show (if _ then _ else _) = _
  by_cases h1 : (ws.map (idxS natS n)).length = n ∧ isPB (ws.map (idxS natS n)) = true
  · have e := row_same hn (.inl h1)
    rw [e, List.length_map]
  · have h2 : ¬ ((ws.map (idxS natS 2400)).length = n ∧ isPB (ws.map (idxS natS 2400)) = true) := fun h2 => h1 (by rw [row_same hn (.inr h2)]; exact h2)
    rw [if_neg fun z => h1 ⟨z.2.1, z.2.2.1⟩, if_neg fun z => h2 ⟨by rw [List.length_map]; exact z.2.1, z.2.2.1⟩]
def spEyeRow : Sp := fun vs H Q _ => ∃ (t : Str) (n : Nat), vs = [.str t, .int (n : Int)] ∧ n ≤ 2400 ∧ t.length ≤ 15000 ∧ (∀ c ∈ tl t, c < 128) ∧ (∀ x ws, Txt.split t (Str.ofString " ") = x :: ws → x.length ≤ 4000 ∧ ws.length ≤ 4096) ∧
  (rowW n t = none → ∀ H', Ex H H' → Q .non H') ∧ ∀ x p, rowW n t = some (x, p) → ∀ u r H', Ex H H' → H' u = some (.tup [.str x, .ref r]) → H' r = some (.tup (nvs p)) → Q (.ref u) H'
theorem cut_tail {y : V} {l : List V} : cutV (y :: l) (some 1) none = l := by
  unfold cutV
  rw [HT.sIx_none, show (1 : Int) = ((1 : Nat) : Int) from rfl, HT.sIx_nat, Nat.min_eq_left (by show 1 ≤ l.length + 1; omega)]
  show (l.take _) = l
  exact List.take_of_length_le (by show l.length ≤ l.length + 1 - 1; omega)
theorem at0 {α : Type} {y : α} {l : List α} : atI (y :: l) 0 = some y := by
  unfold atI ixN
  rw [if_pos (by decide), if_pos (by show (0 : Int) < ((l.length + 1 : Nat) : Int); omega)]
  rfl
section
variable {P : Program} {w : World} {K : PySem.W.Frag} {mg : Str → Option Value} {base : Heap} {AA : Adr}
theorem ok_law_eye_row (T : Txt K mg AA) : Pr P w K mg base "_law_eye_row" s_law_eye_row p_law_eye_row 5 spEyeRow := by
  refine pr_mk T.f_law_eye_row sc_law_eye_row (fun vs H Q E h => ?_) (fun f cdv A outer s H vs Q E hr h => ?_)
  · obtain ⟨z, n, rfl, _⟩ := h
    rfl
  · obtain ⟨t, n, rfl, hn, ht, ha, hw, q0, q1⟩ := h
    refine ⟨_, (pss_cons (ps_set (i := 2) sc_law_eye_row.nd rfl (.inl rfl) (pe_split (pv 0) pe_str))
      (pss_cons (ps_if (PW.pt (pw_or (pt_cmpR op_ne (pe_callB (call_len_seqK (K := K) rfl) (by rfl) T.n_len PySem.boot_len (pa_cons (pv 2) pa_nil)) (pe_op op_add (pv 1) pe_int) (nomark _)) (pw_or1 (pt_not (pt_val (pcall (ok_law_is_title T) hr (pa_cons (pe_ix (ix_listK (K := K) rfl) (pv 2) pe_int (fun _ _ => rfl)) pa_nil)))))))
      (pss_one (ps_ret pe_non))
      pss_nil)
      (pss_cons (ps_set (i := 3) sc_law_eye_row.nd rfl (.inl rfl) (pe_callTy call_tuple_of (by rfl) T.n_tuple PyProof.Rows.boot_tuple (pa_cons (pe_lc (own := [("_law_x", 4)]) (g := gName 4) (tt := tYes) rfl sc_law_eye_row.nd (pi_list (pe_slice sl_list (pv 2) (po_some pe_int) po_none)) (blkOk_by (own := [("_law_x", 4)]) (N := n_law_eye_row) (sc := defScope s_law_eye_row) (by decide +kernel)) (fun _ _ _ _ _ => (pg_name (i := 4) sc_law_eye_row.nd rfl (.inl rfl))) (fun _ _ _ _ _ => pts_nil) (fun _ _ _ _ _ => (pcall (ok_law_many T) hr (pa_cons (pv 4) pa_nil)))) pa_nil)))
      (pss_cons (ps_if (PW.pt (pw_or (pt_not (pt_val (pcall (ok_law_is_rows T) hr (pa_cons (pv 3) pa_nil)))) (pw_or1 (pt_cmpR (op_eqD hr.units) (pv 3) (pcall (ok_law_alone T) hr (pa_cons (pv 1) pa_nil)) (nomark _)))))
      (pss_one (ps_ret pe_non))
      pss_nil)
      (pss_one (ps_ret (pe_tup (pa_cons (pe_ix (ix_listK (K := K) rfl) (pv 2) pe_int (fun _ _ => rfl)) (pa_cons (pv 3) pa_nil))))))))), ?_⟩
    have big : 16777216 ≤ sizeLine := by rw [sizeLine_eq]; decide
    have hpos := PyProof.Rows.split_pos t (Str.ofString " ")
    obtain ⟨x, ws, hs⟩ : ∃ x xs, Txt.split t (Str.ofString " ") = x :: xs := by
      match Txt.split t (Str.ofString " "), hpos with
      | x :: xs, _ => exact ⟨x, xs, rfl⟩
    obtain ⟨hx1, hwl⟩ := hw x ws hs
    have hrow := rowW_law hn hs
    have hxa : ∀ c ∈ tl x, c < 128 := fun c hc => ha c (split_mem (by rw [hs]; exact .head _) hc)
    have hwa : ∀ v ∈ ws, (∀ c ∈ tl v, c < 128) ∧ v.length ≤ 15000 := fun v hv => ⟨fun c hc => ha c (split_mem (by rw [hs]; exact .tail _ hv) hc), Nat.le_trans (split_len (by rw [hs]; exact .tail _ hv)) ht⟩
    refine ⟨_, rfl, ⟨t, rfl⟩, t, Str.ofString " ", rfl, rfl, by decide +kernel, by omega, fun L hL => ?_⟩
    rw [hs]
    have e1 := Ex.new (o := .lst ((x :: ws).map V.str)) hL
    have h1 := upd_same (H := H) (a := L) (o := HO.lst ((x :: ws).map V.str))
    generalize upd H L _ = H1 at e1 h1 ⊢
    refine ⟨_, rfl, L, _, rfl, .inl (sq_of h1), _, rfl, _, _, rfl, rfl, rfl, _, rfl, ite2 (fun hb => ?_) (fun hb => ?_)⟩
    · refine iteT (q0 ?_ _ e1)
      rw [hrow, if_neg fun h => ?_]
      rw [decide_eq_true (by rw [List.length_map, List.length_cons, h.2.1]; rfl)] at hb
      cases hb
    have hwn : ws.length = n := by
      cases hd : decide (V.int (((x :: ws).map V.str).length : Int) = V.int ((n : Int) + 1)) with
      | false =>
        rw [hd] at hb
        exact absurd rfl hb
      | true =>
        have h := V.int.inj (of_decide_eq_true hd)
        rw [List.length_map, List.length_cons] at h
        omega
    refine ⟨_, rfl, L, _, 0, .str x, rfl, rfl, sq_of h1, at0, .str x, .s x, rfl, ⟨rfl, hx1, hxa⟩, fun H2 e2 => ⟨_, rfl, ?_⟩⟩
    cases hnk : nameK (.s x) with
    | false =>
      refine iteT (q0 ?_ _ (e1.trans e2))
      rw [hrow, if_neg fun h => by rw [hnk] at h; cases h.1]
    | true =>
      refine iteF ?_
      have h2 := e2 _ _ h1
      refine ⟨_, rfl, _, rfl, L, _, rfl, sq_of h2, fun S hS => ?_⟩
      rw [show cutV ((x :: ws).map V.str) (some 1) none = ws.map V.str from cut_tail]
      have e3 := Ex.new (o := .lst (ws.map V.str)) hS
      have h3 := upd_same (H := H2) (a := S) (o := HO.lst (ws.map V.str))
      have h23 := e3 _ _ h2
      generalize upd H2 S _ = H3 at e3 h3 h23 ⊢
      refine ⟨S, rfl, ⟨_, sq_of h3⟩, fun B hB => lc_it (walk_list (xs := ws.map V.str)) (fun i H' => Ex H3 H' ∧ H3 B = none ∧ H' B = some (.lst (((ws.take i).map (idxS natS 2400)).map numV))) ⟨Ex.new hB, hB, upd_same⟩ (fun _ _ _ hp => sq_of (hp.1 _ _ h3)) (fun i u H6 H7 hi hp hy => ?_) (fun H6 hp => ?_)⟩
      · obtain ⟨rfl, hu⟩ := hy
        obtain ⟨x6, hB0, h6⟩ := hp
        rw [List.length_map] at hi
        rw [List.getElem?_map] at hu
        obtain ⟨wd, hwd, rfl⟩ := Option.map_eq_some_iff.mp hu
        obtain ⟨g1, g2⟩ := hwa wd (List.mem_of_getElem? hwd)
        refine ⟨rfl, _, rfl, wd, rfl, g2, g1, fun H8 e8 => ⟨_, e8 _ _ h6, ?_, (x6.trans e8).mut hB0, hB0, ?_⟩⟩
        · rw [List.length_map, List.length_map, List.length_take]
          exact sz_lt (by omega)
        · rw [upd_same, List.take_add_one, hwd, List.map_append, List.map_append]
          rfl
      obtain ⟨x6, hB0, h6⟩ := hp
      rw [List.length_map, List.take_length] at h6
      refine ⟨B, _, rfl, .inl ⟨sq_of h6, fun r hr => ?_⟩⟩
      have e7 := Ex.new (o := .tup ((ws.map (idxS natS 2400)).map numV)) hr
      have h7 := upd_same (H := H6) (a := r) (o := HO.tup ((ws.map (idxS natS 2400)).map numV))
      have h67 := (x6.trans e7) _ _ h23
      generalize upd H6 r _ = H7 at e7 h7 h67 ⊢
      have x17 := e1.trans (e2.trans (e3.trans (x6.trans e7)))
      have hll : (ws.map (idxS natS 2400)).length = n := by rw [List.length_map, hwn]
      rw [hnk] at hrow
      generalize hld : ws.map (idxS natS 2400) = ls at *
      refine ⟨_, rfl, .ref r, .tuple (ls.map numDt), rfl, .tup h7 (reps_num ls), ?_, ?_⟩
      · exact num_okV (by omega)
      rw [partD_num]
      cases hpb : isPB ls with
      | false =>
        refine ⟨_, rfl, iteT (q0 ?_ _ x17)⟩
        rw [hrow, if_neg fun h => by rw [hpb] at h; cases h.2.2.1]
      | true =>
        refine ⟨_, rfl, iteF ?_⟩
        have hnz : ∀ m ∈ ls, m ≠ 0 := fun m hm => by
          have := (isPB_in rfl hpb hm).1
          omega
        refine ⟨_, rfl, _, rfl, n, rfl, by omega, fun pa hpa => ?_⟩
        have e8 := Ex.new (o := .tup (nvs (alone n))) hpa
        have hls : ls.map numV = nvs ls := by
          unfold nvs
          exact List.map_congr_left fun m hm => by unfold numV; rw [if_neg (hnz m hm)]
        rw [hls] at h7
        refine ⟨.tuple (ndats ls), .tuple (ndats (alone n)), .tup (st_of (e8 _ _ h7)) (dp_nats _), .tup (st_of upd_same) (dp_nats _), shaped_tup _, shaped_tup _, ?_⟩
        rw [eqv_tup]
        by_cases hal : ls = alone n
        · rw [decide_eq_true hal]
          refine ⟨_, rfl, iteT (q0 ?_ _ (x17.trans e8))⟩
          rw [hrow, if_neg fun h => h.2.2.2 hal]
        · rw [decide_eq_false hal]
          refine ⟨_, rfl, iteF ?_⟩
          refine ⟨_, rfl, L, _, 0, .str x, rfl, rfl, sq_of (e8 _ _ h67), at0, _, rfl, by show 2 ≤ sizeLine; decide, fun u hu => ?_⟩
          exact q1 x ls (by rw [hrow, if_pos ⟨rfl, hwn, hpb, hal⟩]) u r _ (x17.trans (e8.trans (Ex.new hu))) upd_same (Ex.new hu _ _ (e8 _ _ h7))
end
end Eyes

set_option Elab.async false
set_option linter.all false
set_option maxRecDepth 100000
set_option maxHeartbeats 8000000
/-! The law's own reader of worlds. -/
namespace Eyes
open PySem PySem.Spec PyProof.Rows L2 Evl TL
def spReader (K : PySem.W.Frag) : Sp := fun vs H Q _ => (∃ v, vs = [v] ∧ NoTxt K H v ∧ ∀ u a H', Ex H H' → H' u = some (.tup [.str (Str.ofString "InvalidText"), .ref a]) → H' a = some (.tup [.int (-1)]) → Q (.ref u) H') ∨ ∃ z : Str, vs = [.str z] ∧ TxW z ∧
  (∀ k : Nat, rdW z = .inl k → ∀ u a H', Ex H H' → H' u = some (.tup [.str (Str.ofString "InvalidText"), .ref a]) → H' a = some (.tup [.int (k : Int)]) → Q (.ref u) H') ∧
  ∀ n f, rdW z = .inr (n, f) → ∀ u D H', Ex H H' → H' u = some (.tup [.str Str.empty, .int (n : Int), .ref D]) → VwAt H' D n f → Q (.ref u) H'
section
variable {P : Program} {w : World} {K : PySem.W.Frag} {mg : Str → Option Value} {base : Heap} {AA : Adr}
theorem ok_law_reader (T : Txt K mg AA) : Pr P w K mg base "_law_reader" s_law_reader p_law_reader 7 (spReader K) := by
  refine pr_mk T.f_law_reader sc_law_reader (fun vs H Q E h => ?_) (fun f cdv A outer s H vs Q E hr h => ?_)
  · rcases h with ⟨z, rfl, _⟩ | ⟨z, rfl, _⟩
    · rfl
    · rfl
  · refine ⟨_, (pss_cons (ps_if (pt_not (pt_val (pe_callB (call_isiK (K := K) rfl) (by rfl) T.n_isinstance PyProof.Rows.boot_isinstance (pa_cons (pv 0) (pa_cons (pe_bltn (v := .ty "str") (by rfl) T.n_str (by decide +kernel) rfl) pa_nil)))))
      (pss_one (ps_ret (pe_tup (pa_cons pe_str (pa_cons (pe_tup (pa_cons (pe_un un_neg pe_int) pa_nil)) pa_nil)))))
      pss_nil)
      (pss_cons (ps_set (i := 1) sc_law_reader.nd rfl (.inl rfl) (pe_split (pv 0) pe_str))
      (pss_cons (ps_set (i := 2) sc_law_reader.nd rfl (.inl rfl) (pe_op op_sub (pe_callB (call_len_seqK (K := K) rfl) (by rfl) T.n_len PySem.boot_len (pa_cons (pv 1) pa_nil)) pe_int))
      (pss_cons (ps_set (i := 3) sc_law_reader.nd rfl (.inl rfl) (pe_split (pe_ix (ix_listK (K := K) rfl) (pv 1) pe_int (fun _ _ => rfl)) pe_str))
      (pss_cons (ps_if (PW.pt (pw_or (pt_cmpR op_lt (pv 2) pe_int (nomark _)) (pw_or (pt_cmpR op_ne (pe_callB (call_len_seqK (K := K) rfl) (by rfl) T.n_len PySem.boot_len (pa_cons (pv 3) pa_nil)) pe_int (nomark _)) (pw_or (pt_cmpR op_ne (pe_ix (ix_listK (K := K) rfl) (pv 3) pe_int (fun _ _ => rfl)) pe_str (nomark _)) (pw_or1 (pt_cmpR op_isN (pcall (ok_law_many T) hr (pa_cons (pe_ix (ix_listK (K := K) rfl) (pv 3) pe_int (fun _ _ => rfl)) pa_nil)) pe_non (nomark _)))))))
      (pss_one (ps_ret (pe_tup (pa_cons pe_str (pa_cons (pe_tup (pa_cons pe_int pa_nil)) pa_nil)))))
      pss_nil)
      (pss_cons (ps_par3 (i := 4) (j := 5) (l := 6) rfl sc_law_reader.nd rfl rfl rfl (by decide) (by decide) (by decide) rfl rfl rfl (pa_cons (pcall (ok_law_many T) hr (pa_cons (pe_ix (ix_listK (K := K) rfl) (pv 3) pe_int (fun _ _ => rfl)) pa_nil)) (pa_cons pe_dnewK (pa_cons pe_str pa_nil))) rfl)
      (pss_cons (ps_for PassesOwn.never rfl (pi_range2 (by rfl) T.n_range (pa_cons pe_int (pa_cons (pv 2) pa_nil))) (pg_name (i := 7) sc_law_reader.nd rfl (.inl rfl))
      (pss_cons (ps_set (i := 8) sc_law_reader.nd rfl (.inl rfl) (pcall (ok_law_eye_row T) hr (pa_cons (pe_ix (ix_listK (K := K) rfl) (pv 1) (pv 7) (fun _ _ => rfl)) (pa_cons (pv 4) pa_nil))))
      (pss_cons (ps_if (PW.pt (pw_or (pt_cmpR op_isN (pv 8) pe_non (nomark _)) (pw_or1 (pt_cmpR op_le_str (pe_ix (ix_tupK (K := K) rfl) (pv 8) pe_int (fun _ _ => rfl)) (pv 6) (nomark _)))))
      (pss_one (ps_ret (pe_tup (pa_cons pe_str (pa_cons (pe_tup (pa_cons (pv 7) pa_nil)) pa_nil)))))
      pss_nil)
      (pss_cons (ps_set (i := 6) sc_law_reader.nd rfl (.inl rfl) (pe_ix (ix_tupK (K := K) rfl) (pv 8) pe_int (fun _ _ => rfl)))
      (pss_one (ps_dput (hu_of hr) (pv 5) (pv 6) (pe_ix (ix_tupK (K := K) rfl) (pv 8) pe_int (fun _ _ => rfl)) rfl))))))
      (pss_one (ps_ret (pe_ifExp (pt_cmpR op_ne (pe_ix (ix_listK (K := K) rfl) (pv 1) (pv 2) (fun _ _ => rfl)) pe_str (nomark _)) (pe_tup (pa_cons pe_str (pa_cons (pe_tup (pa_cons (pv 2) pa_nil)) pa_nil))) (pe_tup (pa_cons pe_str (pa_cons (pv 4) (pa_cons (pv 5) pa_nil)))))))))))))), ?_⟩
    rcases h with ⟨v, rfl, ⟨t, ht, hk⟩, q0⟩ | ⟨z, rfl, hz, q0, q1⟩
    · exact ⟨_, rfl, v, .ty "str", _, _, false, rfl, .ty _, ht, hk, _, rfl, iteT ⟨1, rfl, by show 1 ≤ sizeLine; decide, fun a ha => ⟨by show 2 ≤ sizeLine; decide, fun u hu => q0 u a _ ((Ex.new ha).trans (Ex.new hu)) upd_same (Ex.new hu _ _ upd_same)⟩⟩⟩
    have big : 16777216 ≤ sizeLine := by rw [sizeLine_eq]; decide
    have hlen := hz.len
    have fin : ∀ {H' : Hp} (k : Nat), Ex H H' → rdW z = .inl k → ∀ a, H' a = none → ∀ u, (upd H' a (.tup [.int (k : Int)])) u = none → Q (.ref u) (upd (upd H' a (.tup [.int (k : Int)])) u (.tup [.str (Str.ofString "InvalidText"), .ref a])) := fun k x hk a ha u hu => q0 k hk u a _ (x.trans ((Ex.new ha).trans (Ex.new hu))) upd_same (Ex.new hu _ _ upd_same)
    refine ⟨_, rfl, _, _, _, _, true, rfl, .ty _, .base (.str _), kit_ty (a := "str") (by decide +kernel), _, rfl, iteF ?_⟩
    have hpos := PyProof.Rows.split_pos z (Str.ofString "\n")
    obtain ⟨first, lines, hs⟩ : ∃ x xs, Txt.split z (Str.ofString "\n") = x :: xs := by
      match Txt.split z (Str.ofString "\n"), hpos with
      | x :: xs, _ => exact ⟨x, xs, rfl⟩
    have hfm : first ∈ Txt.split z (Str.ofString "\n") := by rw [hs]; exact .head _
    have hfew := hz.few
    rw [hs, List.length_cons] at hfew
    have hrd : rdW z = if idxS casesS 2400 first = 0 ∨ lines = [] then .inl 0
      else match rdRows (idxS casesS 2400 first) lines.dropLast Str.empty 1 [] with
      | .inl k => .inl k
      | .inr f => if lines.getLastD Str.empty = Str.empty then .inr (idxS casesS 2400 first, f) else .inl lines.length := by
      unfold rdW
      rw [hs]
      try rfl
    refine ⟨_, rfl, ⟨z, rfl⟩, z, Str.ofString "\n", rfl, rfl, by decide +kernel, by omega, fun L hL => ?_⟩
    rw [hs]
    have e1 := Ex.new (o := .lst ((first :: lines).map V.str)) hL
    have h1 := upd_same (H := H) (a := L) (o := HO.lst ((first :: lines).map V.str))
    generalize upd H L _ = H1 at e1 h1 ⊢
    refine ⟨_, rfl, L, _, rfl, .inl (sq_of h1), _, _, rfl, rfl, ?_⟩
    have hfl := split_len hfm
    refine ⟨_, rfl, L, _, 0, .str first, rfl, rfl, sq_of h1, at0, ⟨first, rfl⟩, first, Str.ofString " ", rfl, rfl, by decide +kernel, by omega, fun LB hLB => ?_⟩
    have hhl := head_law first
    have hwd := hz.wds first hfm
    have hpa : ∀ p ∈ Txt.split first (Str.ofString " "), (∀ c ∈ tl p, c < 128) ∧ p.length ≤ 15000 := fun p hp => ⟨fun c hc => hz.asc c (split_mem hfm (split_mem hp hc)), by have := split_len hp; omega⟩
    generalize hsp : Txt.split first (Str.ofString " ") = hd at *
    have e2 := Ex.new (o := .lst (hd.map V.str)) hLB
    have h2 := upd_same (H := H1) (a := LB) (o := HO.lst (hd.map V.str))
    have h12 := e2 _ _ h1
    generalize upd H1 LB _ = H2 at e2 h2 h12 ⊢
    have x2 := e1.trans e2
    have hfull : (((first :: lines).map V.str).length : Int) - 1 = (lines.length : Int) := by
      rw [List.length_map, List.length_cons]
      omega
    show ∃ _, _
    dsimp only
    rw [hfull]
    refine ⟨_, rfl, _, _, rfl, rfl, _, rfl, ite2 (fun hb => ?_) (fun hb => ?_)⟩
    · have hb : lines = [] := List.length_eq_zero_iff.mp (by have := of_decide_eq_true hb; omega)
      rw [if_pos (.inr hb)] at hrd
      refine iteT ⟨by show 1 ≤ sizeLine; decide, fun a ha => ⟨by show 2 ≤ sizeLine; decide, fun u hu => fin 0 x2 hrd a ha u hu⟩⟩
    have hne : lines ≠ [] := fun h => hb (decide_eq_true (by rw [h]; decide))
    refine ⟨_, rfl, LB, _, rfl, .inl (sq_of h2), rfl, _, rfl, ite2 (fun hb2 => ?_) (fun hb2 => ?_)⟩
    · have hz0 : idxS casesS 2400 first = 0 := by
        rw [hhl]
        match hd, hb2 with
        | [], _ => rfl
        | [a], _ => rfl
        | [a, w], hb2 => exact absurd hb2 (by simp)
        | a :: b :: c :: r, _ => rfl
      rw [if_pos (.inl hz0)] at hrd
      exact iteT ⟨by show 1 ≤ sizeLine; decide, fun a ha => ⟨by show 2 ≤ sizeLine; decide, fun u hu => fin 0 x2 hrd a ha u hu⟩⟩
    obtain ⟨h0, hw, rfl⟩ : ∃ a w, hd = [a, w] := by
      match hd, hb2 with
      | [], hb2 => exact absurd rfl hb2
      | [a], hb2 => exact absurd rfl hb2
      | [a, w], _ => exact ⟨a, w, rfl⟩
      | a :: b :: c :: r, hb2 =>
        refine absurd ?_ hb2
        rw [decide_eq_false fun h => ?_]
        · rfl
        · have h := V.int.inj h
          rw [List.length_map] at h
          have : (a :: b :: c :: r).length = r.length + 3 := rfl
          omega
    have hhl : idxS casesS 2400 first = if h0 = Str.ofString "cases" then idxS natS 2400 hw else 0 := hhl
    refine ⟨_, rfl, LB, _, 0, .str h0, rfl, rfl, sq_of h2, at0, rfl, _, rfl, ite2 (fun hb3 => ?_) (fun hb3 => ?_)⟩
    · have hne0 : ¬ h0 = Str.ofString "cases" := fun h => by
        rw [decide_eq_true (congrArg V.str h)] at hb3
        cases hb3
      rw [if_neg hne0] at hhl
      rw [if_pos (.inl hhl)] at hrd
      exact iteT ⟨by show 1 ≤ sizeLine; decide, fun a ha => ⟨by show 2 ≤ sizeLine; decide, fun u hu => fin 0 x2 hrd a ha u hu⟩⟩
    have he0 : h0 = Str.ofString "cases" := Decidable.byContradiction fun h => hb3 (by rw [decide_eq_false fun h2 => h (V.str.inj h2)]; rfl)
    rw [if_pos he0] at hhl
    obtain ⟨p1, p2⟩ := hpa hw (.tail _ (.head _))
    have at1 : atI ([h0, hw].map V.str) 1 = some (.str hw) := rfl
    refine ⟨_, rfl, LB, _, 1, .str hw, rfl, rfl, sq_of h2, at1, hw, rfl, p2, p1, fun H3 e3 => ?_⟩
    have x3 := x2.trans e3
    have nle : idxS natS 2400 hw ≤ 2400 := idxS_le
    rw [hhl] at hrd
    have h23 := e3 _ _ h2
    have h13 := e3 _ _ h12
    refine ⟨rfl, _, rfl, ?_⟩
    by_cases hn0 : idxS natS 2400 hw = 0
    · rw [if_pos (.inl hn0)] at hrd
      rw [hn0, show decide (numV 0 = V.non) = true from decide_eq_true rfl]
      exact iteT ⟨by show 1 ≤ sizeLine; decide, fun a ha => ⟨by show 2 ≤ sizeLine; decide, fun u hu => fin 0 x3 hrd a ha u hu⟩⟩
    have hnv : numV (idxS natS 2400 hw) = .int (idxS natS 2400 hw : Nat) := if_neg hn0
    rw [if_neg (fun h => h.elim hn0 hne)] at hrd
    rw [hnv, show decide (V.int (idxS natS 2400 hw : Nat) = V.non) = false from decide_eq_false nofun]
    refine iteF ?_
    refine ⟨_, rfl, LB, _, 1, .str hw, rfl, rfl, sq_of h23, at1, hw, rfl, p2, p1, fun H4 e4 D hD => ⟨_, _, _, rfl, ?_⟩⟩
    rw [hnv]
    have e5 := Ex.new (o := .dK []) hD
    have x4 := x3.trans e4
    have h14 := e4 _ _ h13
    have hD5 := upd_same (H := H4) (a := D) (o := HO.dK [])
    have x45 : Ex H4 (upd H4 D (.dK [])) := e5
    generalize upd H4 D (.dK []) = H5 at e5 hD5 x45 ⊢
    generalize idxS natS 2400 hw = n at hrd nle hn0 ⊢
    obtain ⟨ini, last, rfl⟩ : ∃ i x, lines = i ++ [x] := (snoc_or lines).resolve_left hne
    rw [List.dropLast_concat, List.getLastD_concat] at hrd
    have hil : ini.length < 60 := by
      rw [List.length_append, show [last].length = 1 from rfl] at hfew
      omega
    have hcount : (((ini ++ [last]).length : Int) - 1).toNat = ini.length := by
      rw [List.length_append, show [last].length = 1 from rfl]
      omega
    have hlen2 : (ini ++ [last]).length ≤ 60 := by
      rw [List.length_append, show [last].length = 1 from rfl]
      omega
    refine ⟨_, rfl, 1, _, rfl, ⟨by decide, by decide, by omega, by omega⟩, ?_⟩
    rw [hcount]
    refine for_it walk_range (fun i σ H' => ∃ (ah : Str) (f : Vw) (y7 y8 : Option V), σ = [some (.str z), some (.ref L), some (.int ((ini ++ [last]).length : Nat)), some (.ref LB), some (.int (n : Nat)), some (.ref D), some (.str ah), y7, y8] ∧ Ex H4 H' ∧ VwAt H' D n f ∧ RdF n ah f ∧ f.length ≤ i ∧ rdRows n ini Str.empty 1 [] = rdRows n (ini.drop i) ah (i + 1) f) ⟨Str.empty, [], none, none, rfl, x45, ⟨[], hD5, rfl, fun e he => (nomatch he)⟩, .nil, Nat.le_refl _, rfl⟩ (fun _ _ _ _ _ => True.intro) (fun i kv σ H6 H7 hi hp hy => ?_) (fun σ H6 hp => ?_)
    · obtain ⟨rfl, rfl⟩ := hy
      obtain ⟨ah, f, y7, y8, rfl, x6, hV6, hF, hfl2, hrr⟩ := hp
      have hc : (1 : Int) + (i : Nat) = ((i + 1 : Nat) : Int) := by omega
      dsimp only
      rw [hc]
      obtain ⟨line, hli⟩ : ∃ line, ini[i]? = some line := ⟨_, List.getElem?_eq_getElem hi⟩
      have hlm : line ∈ Txt.split z (Str.ofString "\n") := by
        rw [hs]
        exact .tail _ (List.mem_append_left _ (List.mem_of_getElem? hli))
      have hdr : ini.drop i = line :: ini.drop (i + 1) := by
        rw [List.drop_eq_getElem_cons hi]
        rw [List.getElem?_eq_getElem hi] at hli
        rw [Option.some.inj hli]
      rw [hdr, rdRows] at hrr
      have hat : atI ((first :: (ini ++ [last])).map V.str) ((i + 1 : Nat) : Int) = some (.str line) := atI_nat (by
        rw [List.getElem?_map, List.getElem?_cons_succ, List.getElem?_append_left hi, hli]
        rfl)
      have hbad : rdRows n ini Str.empty 1 [] = .inl (i + 1) → rdW z = .inl (i + 1) := fun h => by rw [hrd, h]
      have hln := split_len hlm
      have hlw : ∀ x ws, Txt.split line (Str.ofString " ") = x :: ws → x.length ≤ 4000 ∧ ws.length ≤ 4096 := fun x ws h => by
        refine ⟨hz.fst line hlm x ws h, ?_⟩
        have := hz.wds line hlm
        rw [h, List.length_cons] at this
        omega
      refine ⟨_, rfl, _, rfl, L, _, _, .str line, rfl, rfl, sq_of (x6 _ _ h14), hat, _, rfl, line, n, rfl, nle, by omega, fun c hc => hz.asc c (split_mem hlm hc), hlw, fun hrw H8 e8 => ?_, fun x p hrw u r H8 e8 hu hr => ?_⟩
      · rw [hrw] at hrr
        refine ⟨_, rfl, rfl, _, rfl, ?_⟩
        rw [decide_eq_true rfl]
        exact iteT (iteT ⟨_, rfl, by show 1 ≤ sizeLine; decide, fun a ha => ⟨by show 2 ≤ sizeLine; decide, fun u hu => fin (i + 1) (x4.trans (x6.trans e8)) (hbad hrr) a ha u hu⟩⟩)
      · rw [hrw] at hrr
        have hrr : rdRows n ini Str.empty 1 [] = if ah.cps.toList < x.cps.toList then rdRows n (ini.drop (i + 1)) x (i + 1 + 1) (f ++ [(x, p)]) else .inl (i + 1) := hrr
        refine ⟨_, rfl, rfl, _, rfl, ?_⟩
        rw [decide_eq_false nofun]
        refine iteF ⟨_, rfl, u, _, 0, .str x, rfl, rfl, st_of hu, at0, _, rfl, x, ah, rfl, rfl, _, rfl, ?_⟩
        by_cases hlt : ah.cps.toList < x.cps.toList
        · rw [if_pos hlt] at hrr
          rw [decide_eq_true hlt]
          refine iteF ⟨_, rfl, u, _, 0, .str x, rfl, rfl, st_of hu, at0, ?_⟩
          obtain ⟨r1, r3⟩ := rowW_of hrw
          obtain ⟨W, w1, w2, w3⟩ := hV6.mono e8
          have hWl : W.length ≤ i := by
            have := congrArg List.length w2
            unfold vW at this
            rw [List.length_map] at this
            omega
          have hnot : ∀ e ∈ W, e.1 ≠ x := fun e he h => by
            have hm : (e.1, e.2.2) ∈ f := by
              rw [← w2]
              exact List.mem_map.mpr ⟨e, he, rfl⟩
            rcases hF.le _ hm with h2 | h2
            · have h2 : e.1.cps.toList < ah.cps.toList := h2
              rw [h] at h2
              exact List.lt_irrefl _ (List.lt_trans h2 hlt)
            · have h2 : e.1 = ah := h2
              rw [← h2, h] at hlt
              exact List.lt_irrefl _ hlt
          have hDr : D ≠ r := fun h => by
            rw [← h, w1] at hr
            cases hr
          have atr : atI [V.str x, .ref r] 1 = some (.ref r) := rfl
          refine ⟨_, rfl, u, _, 1, .ref r, rfl, rfl, st_of hu, atr, _, rfl, _, rfl, D, _, rfl, DPut.k (k := .inr x) w1 (by unfold vK; rw [List.length_map]; exact sz_lt (by omega)), ?_⟩
          rw [vK_put (p := p), vPut_new hnot]
          refine ⟨x, f ++ [(x, p)], _, _, rfl, (x6.trans e8).mut hD, ⟨W ++ [(x, r, p)], upd_same, ?_, fun e he => ?_⟩, hF.snoc r1 r3 hlt, by rw [List.length_append]; show f.length + 1 ≤ i + 1; omega, hrr⟩
          · unfold vW at w2 ⊢
            rw [List.map_append, w2]
            rfl
          · rcases List.mem_append.mp he with he | he
            · have := w3 e he
              refine ⟨?_, this.2⟩
              rw [upd_ne fun h => by rw [h, w1] at this; cases this.1]
              exact this.1
            · rw [List.mem_singleton.mp he]
              refine ⟨?_, r3.1⟩
              rw [upd_ne (Ne.symm hDr)]
              exact hr
        · rw [if_neg hlt] at hrr
          rw [decide_eq_false hlt]
          exact iteT ⟨_, rfl, by show 1 ≤ sizeLine; decide, fun a ha => ⟨by show 2 ≤ sizeLine; decide, fun u hu => fin (i + 1) (x4.trans (x6.trans e8)) (hbad hrr) a ha u hu⟩⟩
    obtain ⟨ah, f, y7, y8, rfl, x6, hV6, hF, hfl2, hrr⟩ := hp
    rw [List.drop_length] at hrr
    have hrr : rdRows n ini Str.empty 1 [] = .inr f := hrr
    rw [hrr] at hrd
    have hrd2 : rdW z = if last = Str.empty then .inr (n, f) else .inl (ini ++ [last]).length := hrd
    have hat : atI ((first :: (ini ++ [last])).map V.str) (((ini ++ [last]).length : Nat) : Int) = some (.str last) := atI_nat (by
      rw [List.length_append, show [last].length = 1 from rfl, List.getElem?_map, List.getElem?_cons_succ, List.getElem?_append_right (Nat.le_refl _), Nat.sub_self]
      rfl)
    refine ⟨_, rfl, _, rfl, L, _, _, .str last, rfl, rfl, sq_of (x6 _ _ h14), hat, rfl, _, rfl, ?_⟩
    by_cases hlast : last = Str.empty
    · rw [if_pos hlast] at hrd2
      rw [show decide (V.str last = V.str (Str.ofString "")) = true from decide_eq_true (by rw [hlast]; rfl)]
      refine iteF ⟨_, rfl, _, rfl, by show 3 ≤ sizeLine; decide, fun u hu => ?_⟩
      exact q1 n f hrd2 u D _ ((x4.trans x6).trans (Ex.new hu)) upd_same (hV6.mono (Ex.new hu))
    · rw [if_neg hlast] at hrd2
      rw [show decide (V.str last = V.str (Str.ofString "")) = false from decide_eq_false fun h => hlast (V.str.inj h)]
      exact iteT ⟨_, rfl, by show 1 ≤ sizeLine; decide, fun a ha => ⟨by show 2 ≤ sizeLine; decide, fun u hu => fin _ (x4.trans x6) hrd2 a ha u hu⟩⟩
end
end Eyes

set_option Elab.async false
set_option linter.all false
set_option maxRecDepth 100000
set_option maxHeartbeats 4000000
/-! A def may be called over a part of the heap: what is left out stays as it is. -/
namespace Eyes
open PySem PySem.Spec PyProof.Rows L2 Evl
def mrg (G G' H : Hp) : Hp := fun a => match G a with
  | some _ => G' a
  | none => match H a with
    | some o => some o
    | none => G' a
theorem mrg_in {G G' H : Hp} {a : Addr} {o : HO} (h : G a = some o) : mrg G G' H a = G' a := by
  unfold mrg
  rw [h]
theorem mrg_out {G G' H : Hp} {a : Addr} {o : HO} (h : G a = none) (e : H a = some o) : mrg G G' H a = some o := by
  unfold mrg
  rw [h, e]
theorem mrg_new {G G' H : Hp} {a : Addr} (h : G a = none) (e : H a = none) : mrg G G' H a = G' a := by
  unfold mrg
  rw [h, e]
structure Cl (G : Hp) : Prop where
  own : ∀ a C dx fs, G a = some (.ins C dx fs) → G dx = some (.own a)
  ins : ∀ a b, G b = some (.own a) → ∃ C fs, G a = some (.ins C b fs)
  dT : ∀ a kvs, G a ≠ some (.dT kvs)
  frz : ∀ a o u, G a ≠ some (.frz o u)
  tbl : ∀ a ps, G a ≠ some (.tbl ps)
def Own1 (G : Hp) : Prop := ∀ a C dx fs, G a = some (.ins C dx fs) → G dx = some (.own a)
def spFr (sp : Sp) : Sp := fun vs H Q _ => ∃ G : Hp, Ex G H ∧ Cl G ∧ sp vs G (fun v G' => (∀ a o, H a = some o → G a = none → G' a = none) → Own1 G' → Q v (mrg G G' H)) (fun _ _ _ => False)
section
variable {P : Program} {w : World} {G G' H H' : Hp} {h h' : Heap}
theorem HOk.sub (x : HOk P w H h) (e : Ex G H) (c : Cl G) : HOk P w G h := fun a o g => by
  have y := x a o (e a o g)
  cases o with
  | lst xs => exact y
  | tup xs => exact y
  | dK kvs => exact y
  | dT kvs => exact absurd g (c.dT a kvs)
  | set S n => exact y
  | ins C dx fs =>
    obtain ⟨_, y⟩ := y
    exact ⟨c.own a C dx fs g, y⟩
  | own z => exact y
  | xd fs => exact y
  | rng lo hi => exact y
  | frz ob u => exact absurd g (c.frz a ob u)
  | tbl ps => exact y
  | met f z => exact y
  | ext φ => exact y
theorem obj_of {H : Hp} {h : Heap} {a : Addr} {o : HO} (x : ObjOk P w H h a o) : ∃ ob, h.get? a = some ob := by
  cases o with
  | lst xs => obtain ⟨_, _, _, _, e⟩ := x; exact ⟨_, e⟩
  | tup xs => obtain ⟨_, _, _, ob, e, _⟩ := x; exact ⟨_, e⟩
  | dK kvs => obtain ⟨_, _, _, _, o, _, _, e, _⟩ := x; exact ⟨_, e⟩
  | dT kvs => obtain ⟨_, _, _, _, o, _, _, e, _⟩ := x; exact ⟨_, e⟩
  | set S n => obtain ⟨o, _, _, _, e, _⟩ := x; exact ⟨_, e⟩
  | ins C dx fs => obtain ⟨_, _, _, e, _⟩ := x; exact ⟨_, e⟩
  | own y => exact x
  | xd fs => obtain ⟨_, ⟨_, _, _, e, _⟩, _⟩ := x; exact ⟨_, e⟩
  | rng lo hi => obtain ⟨_, _, _, e⟩ := x; exact ⟨_, e⟩
  | frz ob u => obtain ⟨e, _⟩ := x; exact ⟨_, e⟩
  | tbl ps => exact ⟨_, (show h.get? a = some _ from x)⟩
  | met f y => exact ⟨_, (show h.get? a = some _ from x)⟩
  | ext φ => obtain ⟨_, e, _⟩ := x; exact e
theorem mrg_ex (u : ∀ a o, H a = some o → G a = none → G' a = none) : Ex G' (mrg G G' H) := fun a o e => by
  cases g : G a with
  | some o2 => rw [mrg_in g]; exact e
  | none =>
    cases k : H a with
    | some o2 =>
      have := u a o2 k g
      rw [this] at e
      cases e
    | none => rw [mrg_new g k]; exact e
theorem mrg_hok (x : HOk P w H h) (x' : HOk P w G' h') (e : Ex G H) (c : Cl G) (u : ∀ a o, H a = some o → G a = none → G' a = none) (ht : ∀ b xs, G b = some (.tup xs) → G' b = some (.tup xs))
    (kp : ∀ b o o2, h.get? b = some o → H b = some o2 → G b = none → h'.get? b = some o) : HOk P w (mrg G G' H) h' := fun a o q => by
  have tups : ∀ b xs, H b = some (.tup xs) → mrg G G' H b = some (.tup xs) := fun b xs z => by
    cases g : G b with
    | some o2 =>
      have := e b o2 g
      rw [z] at this
      cases this
      rw [mrg_in g]
      exact ht b xs g
    | none => exact mrg_out g z
  have inner : G' a = some o → ObjOk P w (mrg G G' H) h' a o := fun q2 =>
    (x' a o q2).stay (fun b u _ r => r) (fun b r => mrg_ex u b _ r) (fun b xs r => mrg_ex u b _ r)
  cases g : G a with
  | some o2 =>
    rw [mrg_in g] at q
    exact inner q
  | none =>
    cases k : H a with
    | some o2 =>
      rw [mrg_out g k] at q
      cases q
      have y := x a o k
      have no : ∀ b, H b = some (.own a) → G b = none := fun b hb => by
        cases gb : G b with
        | none => rfl
        | some o3 =>
          have := e b o3 gb
          rw [hb] at this
          cases this
          obtain ⟨C, fs, hi⟩ := c.ins a b gb
          rw [g] at hi
          cases hi
      refine y.stay (fun b u hb r => ?_) (fun b hb => mrg_out (no b hb) hb) tups
      rcases hb with rfl | hb
      · exact kp b u o r k g
      · exact kp b u _ r hb (no b hb)
    | none =>
      rw [mrg_new g k] at q
      exact inner q
end
section
variable {P : Program} {w : World} {K : PySem.W.Frag} {mg : Str → Option Value} {base : Heap}
theorem FnOk.frame {CX : CXT} (hcx : ∀ {outer : List Env} {s : Shared} {H : Hp} {e : Value} {s' : Shared}, CX outer H s (fun _ _ _ => False) e s' → False) {k : Nat} {f : Addr} {fd : FuncData} {ps : List Str} {sp : Sp} (F : FnOk P w K mg base CX k f fd ps sp) : FnOk P w K mg base CX0 k f fd ps (spFr sp) := by
  refine ⟨fun vs H Q E h => ?_, fun A outer s H args us vs Q E hr e0 hb hv h => ?_⟩
  · obtain ⟨G, _, _, h⟩ := h
    exact F.len _ _ _ _ h
  · obtain ⟨G, e, c, h⟩ := h
    have none_ : ∀ {b : Addr}, H b = none → G b = none := fun {b} z => fresh_back e z
    have e1 : Env0 P w K mg base A outer s G := ⟨e0.frames, e0.mod, fun b o q => ⟨(e0.bs b o q).1, none_ (e0.bs b o q).2⟩, e0.bsz, e0.funs, fun b hb => none_ (e0.frf b hb), HOk.sub e0.hok e c, e0.bare⟩
    refine codeAny_mono (F.run A outer s G args us vs _ _ hr e1 hb hv h) fun r s' hq => ?_
    cases r with
    | error er => exact (hcx hq).elim
    | ok fl =>
      cases fl with
      | next => exact hq
      | brk => exact hq
      | cont => exact hq
      | ret u =>
        obtain ⟨v, G', os, bare, un, hok, rv, q⟩ := hq
        have nex : ∀ {b : Addr}, b ∉ ([] : List Addr) := fun {b} z => nomatch z
        have at_ : ∀ b o, H b = some o → ∃ ob, s.heap.get? b = some ob := fun b o hb => obj_of (e0.hok b o hb)
        have uf : ∀ a o, H a = some o → G a = none → G' a = none := fun a o ha ga => by
          obtain ⟨ob, hob⟩ := at_ a o ha
          exact un.free a ob hob ga nex
        have own1 : Own1 G' := fun a C dx fs g => by
          obtain ⟨z, _⟩ := hok a _ g
          exact z
        refine ⟨v, mrg G G' H, os, bare, ?_, ?_, rv, q uf own1⟩
        · refine ⟨fun b o hb n hfs hx => un.keep b o hb (none_ n) hfs hx, fun b o hb n hfs hx => un.slot b o hb (none_ n) hfs hx, fun b o hb n hx => ?_, un.there, fun b xs hb => ?_, fun b o u2 hb => ?_, fun b ps hb => ?_⟩
          · rw [mrg_new (none_ n) n]
            exact un.free b o hb (none_ n) hx
          · cases g : G b with
            | some o2 =>
              have := e b o2 g
              rw [hb] at this
              cases this
              rw [mrg_in g]
              exact un.tups b xs g
            | none => exact mrg_out g hb
          · cases g : G b with
            | some o2 =>
              have := e b o2 g
              rw [hb] at this
              cases this
              rw [mrg_in g]
              exact un.frzs b o u2 g
            | none => exact mrg_out g hb
          · cases g : G b with
            | some o2 =>
              have := e b o2 g
              rw [hb] at this
              cases this
              rw [mrg_in g]
              exact un.tbls b ps g
            | none => exact ⟨#[], by rw [mrg_out g hb]; simp⟩
        · refine mrg_hok e0.hok hok e c uf un.tups fun b o o2 hb h2 gb => un.keep b o hb gb (fun hf => ?_) nex
          have := e0.frf b hf
          rw [h2] at this
          cases this
theorem Pr.frame {x : Str} {st : Stmt} {ps : List Str} {k : Nat} {sp : Sp} (G : Pr P w K mg base x st ps k sp) : Pr P w K mg base x st ps k (spFr sp) := by
  obtain ⟨f, fd, hm, F, hb, R⟩ := G
  exact ⟨f, fd, hm, F, hb, FnOk.frame (fun z => z) R⟩
theorem PrX.frame {x : Str} {st : Stmt} {ps : List Str} {k : Nat} {sp : Sp} (G : PrX P w K mg base x st ps k sp) : Pr P w K mg base x st ps k (spFr sp) := by
  obtain ⟨f, fd, hm, F, hb, R⟩ := G
  exact ⟨f, fd, hm, F, hb, FnOk.frame noneX R⟩
end
end Eyes

set_option Elab.async false
set_option linter.all false
set_option maxRecDepth 100000
set_option maxHeartbeats 4000000
namespace Eyes
open PySem PySem.Spec PyProof.Rows L2 Evl TL
/-! ### parts of the heap -/
def cutH (G : Hp) : Hp := fun a => match G a with
  | some (.own x) => match G x with
    | some (.ins C dx fs) => if dx = a then some (.own x) else none
    | _ => none
  | some (.dT _) => none
  | some (.frz _ _) => none
  | some (.tbl _) => none
  | o => o
theorem cut_ins {G : Hp} {a C dx : Addr} {fs : List (Str × V)} (h : G a = some (.ins C dx fs)) : cutH G a = some (.ins C dx fs) := by
  unfold cutH
  rw [h]
theorem cut_lst {G : Hp} {a : Addr} {xs : List V} (h : G a = some (.lst xs)) : cutH G a = some (.lst xs) := by
  unfold cutH
  rw [h]
mutual
theorem CiAt.mono2 {C : Addr} {H H' : Hp} (e1 : ∀ a C dx fs, H a = some (.ins C dx fs) → H' a = some (.ins C dx fs)) (e2 : ∀ a xs, H a = some (.lst xs) → H' a = some (.lst xs)) : ∀ {v : V} {c : Ci}, CiAt C H v c → CiAt C H' v c
  | _, _, .mk h0 h1 h2 h3 => .mk h0 (e1 _ _ _ _ h1) (e2 _ _ h2) (CisAt.mono2 e1 e2 h3)
theorem CisAt.mono2 {C : Addr} {H H' : Hp} (e1 : ∀ a C dx fs, H a = some (.ins C dx fs) → H' a = some (.ins C dx fs)) (e2 : ∀ a xs, H a = some (.lst xs) → H' a = some (.lst xs)) : ∀ {vs : List V} {cs : List Ci}, CisAt C H vs cs → CisAt C H' vs cs
  | _, _, .nil => .nil
  | _, _, .cons h r => .cons (CiAt.mono2 e1 e2 h) (CisAt.mono2 e1 e2 r)
end
theorem CiAt.cut {C : Addr} {G : Hp} {v : V} {c : Ci} (h : CiAt C G v c) : CiAt C (cutH G) v c := h.mono2 (fun _ _ _ _ => cut_ins) fun _ _ => cut_lst
def addT (G H : Hp) : Hp := fun a => match G a with
  | some o => some o
  | none => match H a with
    | some (.tup xs) => some (.tup xs)
    | _ => none
theorem addT_cases {G H : Hp} {a : Addr} {o : HO} (h : addT G H a = some o) : G a = some o ∨ G a = none ∧ ∃ xs, o = .tup xs ∧ H a = some (.tup xs) := by
  unfold addT at h
  cases g : G a with
  | some o2 =>
    rw [g] at h
    exact .inl h
  | none =>
    rw [g] at h
    refine .inr ⟨rfl, ?_⟩
    simp only at h
    split at h
    · rename_i xs e
      cases h
      exact ⟨xs, rfl, e⟩
    · cases h
theorem addT_le {G H : Hp} (e : Ex G H) : Ex (addT G H) H := fun a o h => by
  rcases addT_cases h with h2 | ⟨_, xs, rfl, h2⟩
  · exact e a o h2
  · exact h2
theorem addT_none {G H : Hp} {a : Addr} {xs : List V} (g : G a = none) (h : H a = some (.lst xs)) : addT G H a = none := by
  unfold addT
  rw [g, h]
theorem addT_tup {G H : Hp} (e : Ex G H) : ∀ a xs, H a = some (.tup xs) → addT G H a = some (.tup xs) := fun a xs h => by
  unfold addT
  cases g : G a with
  | some o =>
    have := e a o g
    rw [h] at this
    cases this
    rfl
  | none => simp only [h]
theorem Rep.addT {G H : Hp} {v : V} {c : Ci} (e : Ex G H) (h : Rep H v c.data) : Rep (addT G H) v c.data := Rep.tups (addT_tup e) h
theorem At.addT {b : Addr} {G H : Hp} (h : At b G H) : At b (addT G H) H := by
  obtain ⟨c, ns, i, r, m, n, B⟩ := h
  exact ⟨c, ns, i, r, m, n, addT_none B.nb B.at_, addT_none B.nc B.cells, addT_le B.ex, B.at_, B.cells, B.ne, B.i0, B.r0, B.m0, B.m1⟩
theorem At.more {b : Addr} {G H H' : Hp} (h : At b G H) (e : Ex H H') : ∃ G', At b G' H' ∧ Ex G G' ∧ ∀ a o, H' a = some o → H a = none ∨ (∃ o2, G a = some o2) → G' a = some o := by
  obtain ⟨c, ns, i, r, m, n, B⟩ := h
  refine ⟨fun a => if a = b ∨ a = c then none else H' a, ⟨c, ns, i, r, m, n, if_pos (.inl rfl), if_pos (.inr rfl), fun a u z => ?_, e _ _ B.at_, e _ _ B.cells, B.ne, B.i0, B.r0, B.m0, B.m1⟩, fun a u z => ?_, fun a o z g => ?_⟩
  · by_cases hc : a = b ∨ a = c
    · have z : (if a = b ∨ a = c then none else H' a) = some u := z
      rw [if_pos hc] at z
      cases z
    · have z : (if a = b ∨ a = c then none else H' a) = some u := z
      rw [if_neg hc] at z
      exact z
  · show (if a = b ∨ a = c then none else H' a) = some u
    rw [if_neg ?_]
    · exact e _ _ (B.ex _ _ z)
    · rintro (rfl | rfl)
      · rw [B.nb] at z
        cases z
      · rw [B.nc] at z
        cases z
  · show (if a = b ∨ a = c then none else H' a) = some o
    rw [if_neg ?_]
    · exact z
    · rintro (rfl | rfl)
      · rcases g with g | ⟨o2, g⟩
        · rw [B.at_] at g
          cases g
        · rw [B.nb] at g
          cases g
      · rcases g with g | ⟨o2, g⟩
        · rw [B.cells] at g
          cases g
        · rw [B.nc] at g
          cases g
end Eyes

set_option Elab.async false
set_option linter.all false
set_option maxRecDepth 100000
set_option maxHeartbeats 4000000
/-! What stays where only tables of lambdas change. -/
namespace Eyes
open PySem PySem.Spec PyProof.Rows L2 Evl TL LamX
theorem At.extN {b : Addr} {G H H1 : Hp} {TT : List (Addr × Str)} (h : At b G H) (e : ExtN H H1) (t : Tabs TT H1) : ∃ G', At b G' H1 ∧ ExtN G G' ∧ Tabs TT G' ∧ ∀ a o, H1 a = some o → H a = none ∨ (∃ o2, G a = some o2) → G' a = some o := by
  obtain ⟨c, ns, i, r, m, n, B⟩ := h
  have hb := e _ _ B.at_ (fun _ => nofun)
  have hc := e _ _ B.cells (fun _ => nofun)
  have keep : ∀ {a : Addr} {o : HO}, H1 a = some o → (∀ xs, o ≠ .lst xs) → (if a = b ∨ a = c then none else H1 a) = some o := fun {a o} z n => by
    rw [if_neg ?_]
    · exact z
    · rintro (rfl | rfl)
      · rw [hb] at z
        cases z
        exact n _ rfl
      · rw [hc] at z
        cases z
        exact n _ rfl
  refine ⟨fun a => if a = b ∨ a = c then none else H1 a, ⟨c, ns, i, r, m, n, if_pos (.inl rfl), if_pos (.inr rfl), fun a u z => ?_, hb, hc, B.ne, B.i0, B.r0, B.m0, B.m1⟩, fun a o z nt => ?_, fun p hp => ?_, fun a o z g => ?_⟩
  · by_cases hc : a = b ∨ a = c
    · have z : (if a = b ∨ a = c then none else H1 a) = some u := z
      rw [if_pos hc] at z
      cases z
    · have z : (if a = b ∨ a = c then none else H1 a) = some u := z
      rw [if_neg hc] at z
      exact z
  · show (if a = b ∨ a = c then none else H1 a) = some o
    rw [if_neg ?_]
    · exact e _ _ (B.ex _ _ z) nt
    · rintro (rfl | rfl)
      · rw [B.nb] at z
        cases z
      · rw [B.nc] at z
        cases z
  · obtain ⟨ps, h1, h2, h3⟩ := t p hp
    refine ⟨ps, keep h1 (fun _ => nofun), h2, fun pos cv hcv => ?_⟩
    obtain ⟨c', e1, e2⟩ := h3 pos cv hcv
    exact ⟨c', e1, keep e2 (fun _ => nofun)⟩
  · show (if a = b ∨ a = c then none else H1 a) = some o
    rw [if_neg ?_]
    · exact z
    · rintro (rfl | rfl)
      · rcases g with g | ⟨o2, g⟩
        · rw [B.at_] at g
          cases g
        · rw [B.nb] at g
          cases g
      · rcases g with g | ⟨o2, g⟩
        · rw [B.cells] at g
          cases g
        · rw [B.nc] at g
          cases g
theorem CiAt.exN {C : Addr} {H H' : Hp} {v : V} {c : Ci} (e : ExtN H H') (h : CiAt C H v c) : CiAt C H' v c := h.mono2 (fun _ _ _ _ z => e _ _ z (fun _ => nofun)) fun _ _ z => e _ _ z (fun _ => nofun)
mutual
theorem Rep.exN {H H' : Hp} (e : ExtN H H') : ∀ {v : V} {d : PyData}, Rep H v d → Rep H' v d
  | _, _, .non => .non
  | _, _, .bl b => .bl b
  | _, _, .int i => .int i
  | _, _, .str z => .str z
  | _, _, .lst h r => .lst (e _ _ h (fun _ => nofun)) (Reps.exN e r)
  | _, _, .tup h r => .tup (e _ _ h (fun _ => nofun)) (Reps.exN e r)
theorem Reps.exN {H H' : Hp} (e : ExtN H H') : ∀ {us : List V} {ds : List PyData}, Reps H us ds → Reps H' us ds
  | _, _, .nil => .nil
  | _, _, .cons h r => .cons (Rep.exN e h) (Reps.exN e r)
end
theorem Sd.exN {H H' : Hp} (e : ExtN H H') {n : Nat} {x y : V} (h : Sd H n x y) : Sd H' n x y := by
  induction h with
  | sc h => exact .sc h
  | lst h1 h2 h3 h4 _ ih => exact .lst (e _ _ h1 (fun _ => nofun)) (e _ _ h2 (fun _ => nofun)) h3 h4 ih
  | tup h1 h2 h3 h4 _ ih => exact .tup (e _ _ h1 (fun _ => nofun)) (e _ _ h2 (fun _ => nofun)) h3 h4 ih
  | dct h1 h2 h3 h4 h5 _ ih => exact .dct (e _ _ h1 (fun _ => nofun)) (e _ _ h2 (fun _ => nofun)) h3 h4 h5 ih
theorem VwAt.exN {H H' : Hp} {D : Addr} {n : Nat} {f : Vw} (e : ExtN H H') (h : VwAt H D n f) : VwAt H' D n f := by
  obtain ⟨W, h1, h2, h3⟩ := h
  exact ⟨W, e _ _ h1 (fun _ => nofun), h2, fun x hx => ⟨e _ _ (h3 x hx).1 (fun _ => nofun), (h3 x hx).2⟩⟩
theorem WorldAt.exN {C : Addr} {H H' : Hp} {v : V} {n : Nat} {f : Vw} (e : ExtN H H') (h : WorldAt C H v n f) : WorldAt C H' v n f := by
  obtain ⟨p, dx, D, h1, h2, h3⟩ := h
  exact ⟨p, dx, D, h1, e _ _ h2 (fun _ => nofun), h3.exN e⟩
end Eyes

set_option Elab.async false
set_option linter.all false
set_option maxRecDepth 100000
set_option maxHeartbeats 4000000
namespace Eyes
open PySem PySem.Spec PyProof.Rows L2 Evl TL LamX
/-! ### the lambda's table -/
theorem TT_memA (AA : Adr) : (AA.tbA, (envOfC "_law_text_so" (defScope s_law_text_so) 0 0 .none).qual ++ "<lambda>") ∈ TT AA := .head _
section
variable {K : PySem.W.Frag} {mg : Str → Option Value} {AA : Adr}
theorem TT_unA (T : Txt K mg AA) : ∀ p ∈ TT AA, p.1 = AA.tbA → p.2 = (envOfC "_law_text_so" (defScope s_law_text_so) 0 0 .none).qual ++ "<lambda>" := fun p hp e => by
  rw [List.mem_singleton.mp hp]
end
end Eyes

set_option Elab.async false
set_option linter.all false
set_option maxRecDepth 100000
set_option maxHeartbeats 4000000
/-! Worlds of given partings: what is new. -/
namespace Eyes
open PySem PySem.Spec PyProof.Rows L2 Evl TL
def spWithN (C : Addr) : Sp := fun vs H Q _ => ∃ (n : Nat) (l : Addr) (f : Vw), vs = [.int (n : Int), .ref l] ∧ 1 ≤ n ∧ n ≤ 2400 ∧ VwAt H l n f ∧ f.length < 64 ∧ (f.map (·.1)).Nodup ∧
  ∀ v H' ys, Ex H H' → ys.Perm (f.map (·.1)) → sortedS ys = true → (∃ p dx D, v = .ref p ∧ H p = none ∧ H D = none ∧ H' p = some (.ins C dx (wfl n D)) ∧ VwAt H' D n (seenV n f ys)) → Q v H'
def WIsN (C : Addr) (H0 H : Hp) (v : V) (n m : Nat) (F : Str → List Nat) : Prop := ∃ f ys p dx D, v = .ref p ∧ H0 p = none ∧ H0 D = none ∧ H p = some (.ins C dx (wfl n D)) ∧ VwAt H D n (seenV n f ys) ∧ VwOk n f ys ∧ f.length ≤ m ∧ ∀ t, gP n f t = F t
theorem WIsN.is {C : Addr} {H0 H : Hp} {v : V} {n m : Nat} {F : Str → List Nat} (h : WIsN C H0 H v n m F) : WIs C H v n m F := by
  obtain ⟨f, ys, p, dx, D, rfl, _, _, h3, h4, h5⟩ := h
  exact ⟨f, ys, ⟨p, dx, D, rfl, h3, h4⟩, h5⟩
theorem WIsN.mono {C : Addr} {H0 H H' : Hp} {v : V} {n m : Nat} {F : Str → List Nat} (h : WIsN C H0 H v n m F) (e : Ex H H') : WIsN C H0 H' v n m F := by
  obtain ⟨f, ys, p, dx, D, rfl, h1, h2, h3, h4, h5⟩ := h
  exact ⟨f, ys, p, dx, D, rfl, h1, h2, e _ _ h3, h4.mono e, h5⟩
theorem WIsN.back {C : Addr} {H0 G0 H : Hp} {v : V} {n m : Nat} {F : Str → List Nat} (h : WIsN C H0 H v n m F) (e : Ex G0 H0) : WIsN C G0 H v n m F := by
  obtain ⟨f, ys, p, dx, D, rfl, h1, h2, h3⟩ := h
  exact ⟨f, ys, p, dx, D, rfl, fresh_back e h1, fresh_back e h2, h3⟩
theorem WIsN.put {C : Addr} {H0 H : Hp} {v : V} {n m : Nat} {F : Str → List Nat} {T : Addr} {k1 k2 : List (L2.Key × V)} {o : HO} (h : WIsN C H0 H v n m F) (h0 : H0 T = some o) (hT : H T = some (.dK k1)) : WIsN C H0 (upd H T (.dK k2)) v n m F := by
  obtain ⟨f, ys, p, dx, D, rfl, h1, h2, h3, ⟨W, w1, w2, w3⟩, h5⟩ := h
  refine ⟨f, ys, p, dx, D, rfl, h1, h2, (upd_ne fun z => by rw [z, h0] at h1; cases h1).trans h3, ⟨W, (upd_ne fun z => by rw [z, h0] at h2; cases h2).trans w1, w2, fun e he => ⟨(upd_ne fun z => ?_).trans (w3 e he).1, (w3 e he).2⟩⟩, h5⟩
  have := (w3 e he).1
  rw [z, hT] at this
  cases this
def spPartedN (C : Addr) : Sp := fun vs H Q _ => ∃ (l : Addr) (n : Nat) (f : Vw), vs = [.int (n : Int), .ref l] ∧ VwAt H l n f ∧ VwPre n f ∧ (∀ t ∈ f.map (·.1), Eyes.nm t) ∧ f.length < 64 ∧
  ∀ u H', Ex H H' → WIsN C H H' u n f.length (gP n f) → Q u H'
section
variable {P : Program} {w : World} {K : PySem.W.Frag} {mg : Str → Option Value} {base : Heap} {AA : Adr}
theorem ok_world_withN (T : Txt K mg AA) : Pr P w K mg base "world_with" s_world_with p_world_with 7 (spWithN AA.World) := by
  refine pr_mk T.f_world_with sc_world_with (fun vs H Q E h => ?_) (fun f cdv A outer s H vs Q E hr h => ?_)
  · obtain ⟨n, l, f, rfl, _⟩ := h
    rfl
  · obtain ⟨n, l, f, rfl, h1, h2, hV, hfl, hnd, q⟩ := h
    refine ⟨_, (pss_cons (ps_set (i := 2) sc_world_with.nd rfl (.inl rfl) (pmake0 (K := K) rfl T.m_World (ok_World___init0 T) hr (pa_cons (pv 0) pa_nil)))
      (pss_cons (ps_fld (pv 2) (pcall (ok_counting T) hr (pa_cons (pv 0) (pa_cons (pv 1) pa_nil))) rfl)
      (pss_one (ps_ret (pv 2))))), ?_⟩
    intro d hd
    refine ⟨_, rfl, fun x dx hx hdx hxd => ?_⟩
    have eX : Ex H (upd (upd H dx (.own x)) x (.ins AA.World dx [])) := (Ex.new hdx).trans (Ex.new ((upd_ne (Ne.symm hxd)).trans hx))
    refine ⟨x, dx, d, n, [], [], H, rfl, hx, eX, upd_same, .inr (hd H), ⟨rfl, fun i u k h => by cases h⟩, by decide, fun k hk => (nomatch hk), h1, h2, fun H1 ys e1 hys hso hW => ⟨rfl, ?_⟩⟩
    obtain ⟨p, dx1, D1, hpx, hp, hV1⟩ := hW
    cases hpx
    refine ⟨_, rfl, _, rfl, n, l, f, rfl, by omega, hV.mono e1, hfl, hnd, fun D2 H2 ys2 e2 hD2 hys2 hso2 hV2 => ?_⟩
    have hx2 := e2 _ _ hp
    refine ⟨_, rfl, x, AA.World, dx1, _, rfl, hx2, T.c_World, T.a_World_partings, by show 2 < 1000; decide, ?_⟩
    rw [wfl_put]
    obtain ⟨W, g1, g2, g3⟩ := hV2
    have hne : D2 ≠ x := fun z => by
      rw [z, hx2] at g1
      cases g1
    refine ⟨_, rfl, q (.ref x) _ ys2 ((e1.trans e2).mut hx) hys2 hso2 ⟨x, dx1, D2, rfl, hx, fresh_back e1 hD2, upd_same, W, (upd_ne hne).trans g1, g2, fun e he => ⟨?_, (g3 e he).2⟩⟩⟩
    have g := (g3 e he).1
    rw [upd_ne fun z => by rw [z, hx2] at g; cases g]
    exact g
theorem ok_World_partedNF (T : Txt K mg AA) : PrStaF P w K mg base AA.World "parted" "World.parted" s_World_parted p_World_parted 9 (spPartedN AA.World) := by
  refine prstaF_mk T.u_World_parted sc_World_parted (fun vs H Q E h => ?_) (fun f cdv A outer s H vs Q E hr h => ?_)
  · obtain ⟨l, n, f, rfl, _⟩ := h
    rfl
  · obtain ⟨l, n, g, rfl, hV, pre, hnm, hl, q⟩ := h
    refine ⟨_, (pss_cons (ps_expr (pcall (ok_check_many T) hr (pa_cons (pv 0) pa_nil)))
      (pss_cons (ps_expr (pcall (ok_check_names T) hr (pa_cons (pe_callTy (call_list_dK rfl) (by rfl) T.n_list PyProof.Rows.boot_list (pa_cons (pv 1) pa_nil)) pa_nil)))
      (pss_cons (ps_lock (ps_for PassesOwn.never rfl (pi_values (pv 1)) (pg_name (i := 2) sc_World_parted.nd rfl (.inl rfl))
      (pss_one (ps_if (pt_not (pt_val (pcall (ok_is_parting_to T) hr (pa_cons (pv 2) (pa_cons (pv 0) pa_nil)))))
      pss_never
      pss_nil))))
      (pss_one (ps_ret (pcall (ok_world_withN T) hr (pa_cons (pv 0) (pa_cons (pv 1) pa_nil)))))))), ?_⟩
    have hn2 := pre.n2
    obtain ⟨W, w1, w2, w3⟩ := hV
    refine ⟨_, rfl, n, rfl, pre.n1, pre.n2, ?_⟩
    refine ⟨_, rfl, l, vK W, rfl, w1, fun L hL => ?_⟩
    have hNL : ((vK W).map fun kv => kV kv.1) = (g.map (·.1)).map V.str := by
      rw [← w2]
      unfold vK vW
      rw [List.map_map, List.map_map, List.map_map]
      rfl
    rw [hNL]
    refine ⟨L, g.map (·.1), rfl, .inl (sq_of upd_same), hnm, fun H1 e1 => ?_⟩
    have x1 := (Ex.new hL).trans e1
    have w1' := x1 _ _ w1
    refine ⟨l, _, w1', True.intro, fun od => ?_⟩
    have hfl := upd_same (H := H1) (a := l) (o := .frz od (.dK (vK W)))
    have hfW : ∀ e ∈ W, upd H1 l (.frz od (.dK (vK W))) e.2.1 = some (.tup (nvs e.2.2)) := fun e he => (upd_ne fun z => by
      have h1 := x1 _ _ (w3 e he).1
      rw [z, w1'] at h1
      cases h1).trans (x1 _ _ (w3 e he).1)
    have eHf : Ex H1 (upd (upd H1 l (.frz od (.dK (vK W)))) l (.dK (vK W))) := fun a u h => by
      by_cases ha : a = l
      · rw [ha] at h ⊢
        rw [upd_same, ← w1', h]
      · rw [upd_ne ha, upd_ne ha]
        exact h
    generalize upd H1 l (.frz od (.dK (vK W))) = Hf at hfl hfW eHf ⊢
    refine ⟨_, rfl, l, od, vK W, rfl, hfl, ?_⟩
    refine for_it (walk_values (kvs := vK W)) (fun i σ H' => (∃ y2, σ = [some (.int (n : Int)), some (.ref l), y2]) ∧ Ex Hf H') ⟨⟨none, rfl⟩, Ex.refl _⟩ (fun i σ H' _ hp => hp.2 _ _ hfl) (fun i v σ H2 H3 hi hp hy => ?_) (fun σ H' hp => ?_)
    · obtain ⟨⟨y2, rfl⟩, e2⟩ := hp
      obtain ⟨rfl, k, hk⟩ := hy
      unfold vK at hk
      rw [List.getElem?_map] at hk
      obtain ⟨e, he, hek⟩ := Option.map_eq_some_iff.mp hk
      have hem := List.mem_of_getElem? he
      cases hek
      exact ⟨_, rfl, _, rfl, e.2.1, e.2.2, n, rfl, e2 _ _ (hfW e hem), (w3 e hem).2, pre.n1, by omega, fun H4 e4 => ⟨_, rfl, iteF ⟨⟨_, rfl⟩, e2.trans e4⟩⟩⟩
    · obtain ⟨⟨y2, rfl⟩, e2⟩ := hp
      have xF := eHf.trans (ex_both e2)
      refine ⟨e2 _ _ hfl, _, rfl, _, rfl, n, l, g, rfl, pre.n1, pre.n2, ⟨W, upd_same, w2, fun e he => ⟨xF _ _ (x1 _ _ (w3 e he).1), (w3 e he).2⟩⟩, hl, pre.nd, fun u H4 zs e4 hzs hso hW => ?_⟩
      obtain ⟨p, dx, D, rfl, h1, h2, h3, h4⟩ := hW
      exact q _ H4 (x1.trans (xF.trans e4)) ⟨g, zs, p, dx, D, rfl, fresh_back (x1.trans xF) h1, fresh_back (x1.trans xF) h2, h3, h4, pre.ok hl hzs hso, Nat.le_refl _, fun t => rfl⟩
theorem ok_World_partedN (T : Txt K mg AA) : PrSta P w K mg base AA.World "parted" p_World_parted 9 (spPartedN AA.World) := @PrStaF.s P w K mg base AA.World "parted" "World.parted" s_World_parted p_World_parted 9 (spPartedN AA.World) (ok_World_partedNF (P := P) (w := w) (base := base) T)
end
end Eyes

set_option Elab.async false
set_option linter.all false
set_option maxRecDepth 100000
/-! Texts can be put in order. -/
namespace Eyes
open PySem PySem.Spec PyProof.Rows L2
theorem pw_sortedS : ∀ {l : List Str}, (l.Pairwise fun a b => leC a.cps.toList b.cps.toList) → sortedS l = true
  | [], _ => rfl
  | [x], _ => rfl
  | x :: y :: r, h => by
    have h1 : leC x.cps.toList y.cps.toList := List.rel_of_pairwise_cons h List.mem_cons_self
    have ih := pw_sortedS (List.pairwise_cons.mp h).2
    show (!ltCps y.cps.toList x.cps.toList && risingS y r) = true
    unfold leC at h1
    rw [h1]
    exact ih
end Eyes

set_option Elab.async false
set_option linter.all false
set_option maxRecDepth 100000
set_option maxHeartbeats 8000000
/-! The law about one text of a world. -/
namespace Eyes
open PySem PySem.Spec PyProof.Rows L2 Evl TL LamX
theorem kws_World_read_text : KwOkS "read" "World.read" s_World_read p_World_read ["text"] [0] := fun _ _ _ _ _ _ ws h => match ws, h with | [_], _ => rfl
def ToldR (AA : Adr) (Q : VK) : XK := fun cls d H1 => cls = .ref AA.InvalidText ∧ ∃ (dd : Addr) (v : V), d = some dd ∧ H1 dd = some (.xd [("at", v)]) ∧ ∀ p1 p2 H', Ex H1 H' → H' p1 = some (.tup [v]) → H' p2 = some (.tup [.str "InvalidText", .ref p1]) → Q (.ref p2) H'
def tTryR (AA : Adr) : (XK → Hp → VK → Prop) → Hp → VK → Prop := fun tl H Q => ∃ (E1 : XK) (Q1 : VK), tl E1 H Q1 ∧ (∀ v H1, Q1 v H1 → ∀ p H', Ex H1 H' → H' p = some (.tup [.str "", v]) → Q (.ref p) H') ∧ ∀ cls d H1, E1 cls d H1 → ToldR AA Q cls d H1
def spTextSo (K : PySem.W.Frag) (AA : Adr) : Sp := fun vs H Q _ => ∃ v : V, vs = [v] ∧ (NoTxt K H v ∨ ∃ z : Str, v = .str z ∧ TxW z) ∧ Tabs (TT AA) H ∧ ∀ H', ExtN H H' → Tabs (TT AA) H' → Q (.bl true) H'
theorem TyX.exN {K : PySem.W.Frag} {H H' : Hp} {v : V} {t : Value} (e : ExtN H H') (h : TyX K H v t) : TyX K H' v t := by
  cases h with
  | base h =>
    cases h with
    | non => exact .base .non
    | bl b => exact .base (.bl b)
    | int b => exact .base (.int b)
    | str b => exact .base (.str b)
    | flt b => exact .base (.flt b)
    | lst h => exact .base (.lst (e _ _ h (fun _ => nofun)))
    | frz h => exact .base (.frz (e _ _ h (fun _ => nofun)))
    | tup h => exact .base (.tup (e _ _ h (fun _ => nofun)))
    | dK h => exact .base (.dK (e _ _ h (fun _ => nofun)))
    | dT h => exact .base (.dT (e _ _ h (fun _ => nofun)))
    | ins h h1 h2 h3 h4 h5 => exact .base (.ins (e _ _ h (fun _ => nofun)) h1 h2 h3 h4 h5)
  | byt b => exact .byt b
  | set h => exact .set (e _ _ h (fun _ => nofun))
  | kList h c => exact .kList h c
  | kTuple h c => exact .kTuple h c
  | kDict h c => exact .kDict h c
  | fTuple h => exact .fTuple (e _ _ h (fun _ => nofun))
  | fDict h => exact .fDict (e _ _ h (fun _ => nofun))
theorem get_own {f : Vw} (h : (f.map (·.1)).Nodup) {e : Str × List Nat} (he : e ∈ f) : wGet f e.1 = some e.2 := by
  induction f with
  | nil => cases he
  | cons x f ih =>
    have hx := List.nodup_cons.mp (show (x.1 :: f.map (·.1)).Nodup from h)
    unfold wGet at ih ⊢
    rw [List.find?_cons]
    rcases List.mem_cons.mp he with rfl | he
    · rw [decide_eq_true rfl]
      rfl
    · have hne : x.1 ≠ e.1 := fun z => hx.1 (z ▸ List.mem_map.mpr ⟨e, he, rfl⟩)
      rw [decide_eq_false hne]
      exact ih hx.2 he
theorem RdF.sorted {n : Nat} {ah : Str} {f : Vw} (h : RdF n ah f) : sortedS (f.map (·.1)) = true := pw_sortedS (h.lt.imp fun {a b} hl => by
  show ltCps b.cps.toList a.cps.toList = false
  rw [ltC_iff]
  exact decide_eq_false fun h2 => List.lt_irrefl _ (List.lt_trans hl h2))
theorem RdF.ok {n : Nat} {ah : Str} {f : Vw} (h : RdF n ah f) (n1 : 1 ≤ n) (n2 : n ≤ 2400) (few : f.length < 64) : VwOk n f (f.map (·.1)) := ⟨n1, n2, few, h.nd, fun e he => by
  have := (h.nm e he).2.1
  omega, fun t => by
  unfold wGet
  cases e : f.find? fun e => decide (e.1 = t) with
  | none => exact isP_alone n
  | some x => exact (h.P x (List.mem_of_find?_eq_some e)).1, List.Perm.refl _, h.sorted⟩
theorem RdF.seen {n : Nat} {ah : Str} {f : Vw} (h : RdF n ah f) : seenV n f (f.map (·.1)) = f := by
  have hg : ∀ e ∈ f, gP n f e.1 = e.2 := fun e he => by
    unfold gP
    rw [get_own h.nd he]
    rfl
  rw [seenV_filter, List.filter_eq_self.mpr fun t ht => ?_, List.map_map]
  · refine (List.map_congr_left fun e he => ?_).trans (List.map_id f)
    show (e.1, gP n f e.1) = e
    rw [hg e he]
  · obtain ⟨e, he, rfl⟩ := List.mem_map.mp ht
    rw [decide_eq_true_iff, hg e he]
    exact (h.P e he).2
section
variable {P : Program} {w : World} {K : PySem.W.Frag} {mg : Str → Option Value} {base : Heap} {AA : Adr}
theorem ok_law_tryR (T : Txt K mg AA) : PrC P w K mg base "_law_try" 60 62 (tTryR AA) := by
  refine prC_mk T.f_law_try sc_law_try (fun g cdg A outer s H f c' q tl Q hr C hc ht => ?_)
  refine ⟨_, pss_one (ps_tryAs rfl rfl sc_law_try.nd (fun W pn xe tk po => pss_one (ps_ret (pe_tup (pa_cons pe_str (pa_cons (pe_ask2 (CXg := C8.CX0) (Eg := C8.E0) (i := 0) C tk (hr.mono (by decide)) rfl (.inl rfl)) pa_nil))))) (.cons (j := 1) ⟨rfl, by decide, .inl T.e_InvalidName.gC⟩ rfl rfl (fun e oe cls d pn hz hd => pss_one (ps_ret (pe_tup (pa_cons pe_str (pa_cons (pe_tup (pa_cons (pe_xf T.e_InvalidName.xf T.a_InvalidName_value hz hd (pv 1)) pa_nil)) pa_nil)))))
        (.cons (j := 1) ⟨rfl, by decide, .inl T.e_InvalidNumber.gC⟩ rfl rfl (fun e oe cls d pn hz hd => pss_one (ps_ret (pe_tup (pa_cons pe_str (pa_cons (pe_tup (pa_cons (pe_xf T.e_InvalidNumber.xf T.a_InvalidNumber_value hz hd (pv 1)) pa_nil)) pa_nil)))))
        (.cons (j := 1) ⟨rfl, by decide, .inl T.e_InvalidText.gC⟩ rfl rfl (fun e oe cls d pn hz hd => pss_one (ps_ret (pe_tup (pa_cons pe_str (pa_cons (pe_tup (pa_cons (pe_xf T.e_InvalidText.xf T.a_InvalidText_at hz hd (pv 1)) pa_nil)) pa_nil)))))
        (.cons (j := 1) ⟨rfl, by decide, .inl T.e_InvalidCircle.gC⟩ rfl rfl (fun e oe cls d pn hz hd => pss_one (ps_ret (pe_tup (pa_cons pe_str (pa_cons (pe_tup (pa_cons (pe_xf T.e_InvalidCircle.xf T.a_InvalidCircle_at hz hd (pv 1)) pa_nil)) pa_nil)))))
        (.cons (j := 1) ⟨rfl, by decide, .inl T.e_InvalidTie.gC⟩ rfl rfl (fun e oe cls d pn hz hd => pss_one (ps_ret (pe_tup (pa_cons pe_str (pa_cons (pe_tup (pa_cons (pe_xf T.e_InvalidTie.xf T.a_InvalidTie_at hz hd (pv 1)) pa_nil)) pa_nil)))))
        (.cons (j := 1) ⟨rfl, by decide, .inl T.e_InvalidParting.gC⟩ rfl rfl (fun e oe cls d pn hz hd => pss_one (ps_ret (pe_tup (pa_cons pe_str (pa_cons (pe_tup (pa_cons (pe_xf T.e_InvalidParting.xf T.a_InvalidParting_value hz hd (pv 1)) pa_nil)) pa_nil)))))
        (.cons (j := 1) ⟨rfl, by decide, .inl T.e_InvalidCase.gC⟩ rfl rfl (fun e oe cls d pn hz hd => pss_one (ps_ret (pe_tup (pa_cons pe_str (pa_cons (pe_tup (pa_cons (pe_xf T.e_InvalidCase.xf T.a_InvalidCase_value hz hd (pv 1)) pa_nil)) pa_nil)))))
        (.cons (j := 1) ⟨rfl, by decide, .inl T.e_TooMany.gC⟩ rfl rfl (fun e oe cls d pn hz hd => pss_one (ps_ret (pe_tup (pa_cons pe_str (pa_cons (pe_tup (pa_cons (pe_xf T.e_TooMany.xf T.a_TooMany_what hz hd (pv 1)) (pa_cons (pe_xf T.e_TooMany.xf T.a_TooMany_most hz hd (pv 1)) pa_nil))) pa_nil)))))
        HdsAs.rest))))))))), ?_⟩
  obtain ⟨E1, Q1, ht, hQ, hE⟩ := ht
  refine ⟨rfl, hc, _, _, ht, fun v H1 h => ⟨by show 2 ≤ sizeLine; decide, fun p hp => hQ v H1 h p _ (Ex.new hp) upd_same⟩, fun cls d H1 h => ?_⟩
  obtain ⟨rfl, dd, v, rfl, hx, h⟩ := hE _ _ _ h
  refine ⟨_, T.x_InvalidText_InvalidName, fun z => (nomatch z), fun _ => ⟨_, T.x_InvalidText_InvalidNumber, fun z => (nomatch z), fun _ => ⟨_, T.x_InvalidText_InvalidText, fun _ e he => ?_, fun z => (nomatch z)⟩⟩⟩
  exact ⟨_, rfl, rfl, rfl, dd, _, v, rfl, hx, rfl, by show 1 ≤ sizeLine; decide, fun p1 hp1 => ⟨by show 2 ≤ sizeLine; decide, fun p2 hp2 => h p1 p2 _ ((Ex.new hp1).trans (Ex.new hp2)) (Ex.new hp2 _ _ upd_same) upd_same⟩⟩
theorem ok_law_text_so (T : Txt K mg AA) (TB : TabB base mg AA.cdA AA.tbA) : Pr P w K mg base "_law_text_so" s_law_text_so p_law_text_so 80 (spTextSo K AA) := by
  refine pr_mkC T.f_law_text_so sc_law_text_so (fun vs H Q E h => ?_) (fun f A outer s H vs Q E hr h => ?_)
  · obtain ⟨z, rfl, _⟩ := h
    rfl
  · obtain ⟨v, rfl, hv, hT, q⟩ := h
    refine ⟨_, (pss_cons (ps_set (i := 1) sc_law_text_so.nd rfl (.inl rfl) (pcall (ok_law_reader T) hr (pa_cons (pv 0) pa_nil)))
      (pss_cons (ps_set (i := 2) sc_law_text_so.nd rfl (.inl rfl) (pe_lamh (T := TT AA) (kk := 60) (ok_law_tryR T) rfl TB rfl (TT_memA AA) (TT_unA T) hr (by decide) (lamS_by (by show lamSB (defScope s_law_text_so) _ = true; decide +kernel)) rfl (fun _ _ _ _ _ => rfl) (fun A outer s H E f c' hr => (pstaNX (ok_World_readX T) kws_World_read_text hr (fun σ => passAt (takes_of (E := E) rfl rfl rfl rfl) σ) (pe_glob (v := .ref AA.World) (by rfl) T.m_World rfl) (pk_cons (pv 0) pk_nil)))))
      (pss_cons (ps_if (pt_cmpR op_ne (pe_ix (ix_tupK (K := K) rfl) (pv 1) pe_int (fun _ _ => rfl)) pe_str (nomark _))
      (pss_one (ps_ret (pcall (ok_law_sd T 12) hr (pa_cons (pv 2) (pa_cons (pv 1) pa_nil)))))
      pss_nil)
      (pss_cons (ps_if (pt_cmpR op_ne (pe_ix (ix_tupK (K := K) rfl) (pv 2) pe_int (fun _ _ => rfl)) pe_str (nomark _))
      (pss_one (ps_ret pe_bl))
      pss_nil)
      (pss_cons (ps_set (i := 3) sc_law_text_so.nd rfl (.inl rfl) (pe_ix (ix_tupK (K := K) rfl) (pv 2) pe_int (fun _ _ => rfl)))
      (pss_one (ps_ret (pe_and (pcall (ok_law_world_so T) hr (pa_cons (pv 3) (pa_cons (pe_ix (ix_tupK (K := K) rfl) (pv 1) pe_int (fun _ _ => rfl)) (pa_cons (pe_ix (ix_tupK (K := K) rfl) (pv 1) pe_int (fun _ _ => rfl)) pa_nil)))) (pe_one (pcall (ok_law_sd T 12) hr (pa_cons (pe_lst (pa_cons (pe_cmpR (op_eqOwn (ok_World___eq T) hr) (pv 3) (psta (ok_World_partedN T) hr (pe_glob (v := .ref AA.World) (by rfl) T.m_World rfl) (pa_cons (pe_ix (ix_tupK (K := K) rfl) (pv 1) pe_int (fun _ _ => rfl)) (pa_cons (pe_ix (ix_tupK (K := K) rfl) (pv 1) pe_int (fun _ _ => rfl)) pa_nil))) (nomark _)) (pa_cons (pmeth0 T.c_World (ok_World_text T) hr (pv 3)) (pa_cons (pe_callTy (call_strOwn (ok_World___str T) hr) (by rfl) T.n_str PyProof.Rows.boot_str (pa_cons (pv 3) pa_nil)) pa_nil)))) (pa_cons (pe_lst (pa_cons pe_bl (pa_cons (pv 0) (pa_cons (pv 0) pa_nil)))) pa_nil)))))))))))), ?_⟩
    rcases hv with hv | ⟨z, rfl, hz⟩
    · refine ⟨_, rfl, .inl ⟨v, rfl, hv, fun u a H1 e1 hu ha => ?_⟩⟩
      have hT1 := hT.ext e1
      refine ⟨hT1, fun Ha na ta => ⟨fun cls d H2 => cls = .ref AA.InvalidText ∧ ∃ dd, d = some dd ∧ Ex Ha H2 ∧ H2 dd = some (.xd [("at", .int (-1))]), fun _ _ => False, ⟨rfl, _, rfl, rfl, .inl ⟨v, rfl, ?_, fun d H' hd e hx => ⟨rfl, d, rfl, e, hx⟩⟩⟩, fun _ _ h => h.elim, fun cls d H2 h => ?_⟩⟩
      · obtain ⟨t, h1, h2⟩ := hv
        exact ⟨t, TyX.exN na (TyX.mono e1 h1), h2⟩
      obtain ⟨rfl, dd, rfl, e2, hx⟩ := h
      refine ⟨rfl, dd, .int (-1), rfl, hx, fun p1 p2 H3 e3 hp1 hp2 => ?_⟩
      have n3 := na.trans (ExtN.of (e2.trans e3))
      have hu3 := n3 _ _ hu (fun _ => nofun)
      have ha3 := n3 _ _ ha (fun _ => nofun)
      refine ⟨_, rfl, u, _, 0, .str (Str.ofString "InvalidText"), rfl, rfl, st_of hu3, at0, rfl, _, rfl, ?_⟩
      rw [show decide (V.str (Str.ofString "InvalidText") = V.str (Str.ofString "")) = false by decide +kernel]
      refine iteT ⟨_, rfl, _, rfl, _, _, rfl, .tup hp2 hu3 rfl (by show 2 ≤ 90000; decide) (fun i x y h1 h2 => ?_), fun H4 e4 => q H4 ((ExtN.of e1).trans (n3.trans (ExtN.of e4))) ((ta.ext (e2.trans e3)).ext e4)⟩
      match i, h1, h2 with
      | 0, h1, h2 => cases h1; cases h2; exact .str'
      | 1, h1, h2 =>
        cases h1
        cases h2
        refine .tup hp1 ha3 rfl (by show 1 ≤ 90000; decide) fun i x y h1 h2 => ?_
        match i, h1, h2 with
        | 0, h1, h2 => cases h1; cases h2; exact .int'
        | i + 1, h1, h2 => simp at h1
      | i + 2, h1, h2 => simp at h1
    refine ⟨_, rfl, .inr ⟨z, rfl, hz, fun k hk u a H1 e1 hu ha => ?_, fun n f hk u D H1 e1 hu hV => ?_⟩⟩
    · have hT1 := hT.ext e1
      refine ⟨hT1, fun Ha na ta => ⟨fun cls d H2 => cls = .ref AA.InvalidText ∧ ∃ dd, d = some dd ∧ Ex Ha H2 ∧ H2 dd = some (.xd [("at", .int (k : Int))]), fun _ _ => False, ⟨rfl, _, rfl, rfl, .inr ⟨z, rfl, hz, fun k2 hk2 d H' hd e hx => ?_, fun n f hk2 => ?_⟩⟩, fun _ _ h => h.elim, fun cls d H2 h => ?_⟩⟩
      · rw [hk] at hk2
        cases hk2
        exact ⟨rfl, d, rfl, e, hx⟩
      · rw [hk] at hk2
        cases hk2
      obtain ⟨rfl, dd, rfl, e2, hx⟩ := h
      refine ⟨rfl, dd, .int (k : Int), rfl, hx, fun p1 p2 H3 e3 hp1 hp2 => ?_⟩
      have n3 := na.trans (ExtN.of (e2.trans e3))
      have hu3 := n3 _ _ hu (fun _ => nofun)
      have ha3 := n3 _ _ ha (fun _ => nofun)
      have hp13 := hp1
      refine ⟨_, rfl, u, _, 0, .str (Str.ofString "InvalidText"), rfl, rfl, st_of hu3, at0, rfl, _, rfl, ?_⟩
      rw [show decide (V.str (Str.ofString "InvalidText") = V.str (Str.ofString "")) = false by decide +kernel]
      refine iteT ⟨_, rfl, _, rfl, _, _, rfl, .tup hp2 hu3 rfl (by show 2 ≤ 90000; decide) (fun i x y h1 h2 => ?_), fun H4 e4 => q H4 ((ExtN.of e1).trans (n3.trans (ExtN.of e4))) ((ta.ext (e2.trans e3)).ext e4)⟩
      match i, h1, h2 with
      | 0, h1, h2 => cases h1; cases h2; exact .str'
      | 1, h1, h2 =>
        cases h1
        cases h2
        refine .tup hp1 ha3 rfl (by show 1 ≤ 90000; decide) fun i x y h1 h2 => ?_
        match i, h1, h2 with
        | 0, h1, h2 => cases h1; cases h2; exact .int'
        | i + 1, h1, h2 => simp at h1
      | i + 2, h1, h2 => simp at h1
    · have hT1 := hT.ext e1
      obtain ⟨hzf, n1, n2, ah, hF⟩ := read_text hk
      have few : f.length < 64 := by
        have h := hz.few
        rw [hzf, chap_lines fun e he => ⟨hF.nm e he, fun h0 => by
          have := (hF.P e he).1.len
          rw [h0] at this
          have h00 : ([] : List Nat).length = 0 := rfl
          omega⟩, List.length_cons, List.length_append, List.length_map] at h
        omega
      have ok := hF.ok n1 n2 few
      have hsf := hF.seen
      refine ⟨hT1, fun Ha na ta => ⟨fun _ _ _ => False, fun v H2 => Ex Ha H2 ∧ WIs AA.World H2 v n f.length (gP n f), ⟨rfl, _, rfl, rfl, .inr ⟨z, rfl, hz, fun k hk2 => ?_, fun n2 f2 hk2 v H2 e2 hW => ?_⟩⟩, fun v H2 h p H3 e3 hp => ?_, fun _ _ _ h => h.elim⟩⟩
      · rw [hk] at hk2
        cases hk2
      · rw [hk] at hk2
        cases hk2
        exact ⟨e2, hW⟩
      obtain ⟨e2, hW⟩ := h
      have n3 := na.trans (ExtN.of (e2.trans e3))
      have hu3 := n3 _ _ hu (fun _ => nofun)
      have hV3 := hV.exN n3
      have t3 := ta.ext (e2.trans e3)
      have hw3 : WorldAt AA.World H3 v n f := by
        obtain ⟨g, zs, h1, ok2, _, hg⟩ := hW.mono e3
        rw [← hsf, ← seen_canon (f := g) (g := f) (fun t => hg t) ok2.pm ok.pm ok2.nd ok.nd ok2.so ok.so]
        exact h1
      refine ⟨_, rfl, u, _, 0, .str Str.empty, rfl, rfl, st_of hu3, at0, rfl, _, rfl, ?_⟩
      rw [show decide (V.str Str.empty = V.str (Str.ofString "")) = true by decide +kernel]
      refine iteF ⟨_, rfl, p, _, 0, .str "", rfl, rfl, st_of hp, at0, rfl, _, rfl, ?_⟩
      rw [show decide (V.str "" = V.str (Str.ofString "")) = true by decide +kernel]
      have atp : atI [V.str "", v] 1 = some v := rfl
      have atu1 : atI [V.str Str.empty, .int (n : Int), .ref D] 1 = some (.int (n : Int)) := rfl
      have atu2 : atI [V.str Str.empty, .int (n : Int), .ref D] 2 = some (.ref D) := rfl
      refine iteF ⟨_, rfl, p, _, 1, v, rfl, rfl, st_of hp, atp, ?_⟩
      refine ⟨_, rfl, _, rfl, u, _, 1, .int (n : Int), rfl, rfl, st_of hu3, atu1, _, rfl, u, _, 2, .ref D, rfl, rfl, st_of hu3, atu2, v, D, n, f, _, rfl, by rw [hsf]; exact hw3, hV3, ok, fun H4 e4 => ⟨_, rfl, ?_⟩⟩
      have hu4 := e4 _ _ hu3
      have hw4 := hw3.mono e4
      refine ⟨_, rfl, rfl, _, rfl, u, _, 1, .int (n : Int), rfl, rfl, st_of hu4, atu1, _, rfl, u, _, 2, .ref D, rfl, rfl, st_of hu4, atu2, D, n, f, rfl, hV3.mono e4, ok.pre, fun t ht => ?_, few, fun y H5 e5 hy => ?_⟩
      · obtain ⟨e, he, rfl⟩ := List.mem_map.mp ht
        exact hF.nm e he
      have hy5 : WorldAt AA.World H5 y n f := by
        obtain ⟨g, zs, h1, ok2, _, hg⟩ := hy.is
        rw [← hsf, ← seen_canon (f := g) (g := f) (fun t => hg t) ok2.pm ok.pm ok2.nd ok.nd ok2.so ok.so]
        exact h1
      have hw5 := hw4.mono e5
      obtain ⟨p1, dx1, D1, rfl, hp1, hV1⟩ := id hw5
      obtain ⟨p2, dx2, D2, rfl, hp2, hV2⟩ := id hy5
      refine ⟨p1, dx1, _, rfl, hp1, .inr (.inr ⟨p2, dx2, _, rfl, hp2⟩), .ref p1, .ref p2, n, f, rfl, by omega, hw5, hy5, hF.nd, ?_⟩
      have hfew : fewV n f := by
        have := ok.fewV
        rw [hsf] at this
        exact this
      refine ⟨_, rfl, p1, dx1, _, rfl, hp1, wf_no (by decide +kernel) (by decide +kernel), .ref p1, n, f, rfl, hfew, hw5, fun H6 e6 => ?_⟩
      rw [← hzf]
      refine ⟨_, rfl, p1, dx1, _, rfl, e6 _ _ hp1, .ref p1, n, f, rfl, hfew, hw5.mono e6, fun H7 e7 => ⟨_, rfl, ?_⟩⟩
      rw [← hzf]
      refine ⟨by show 3 ≤ sizeLine; decide, fun LA hLA => ⟨_, rfl, _, rfl, by show 3 ≤ sizeLine; decide, fun LB hLB => ⟨_, _, rfl, .lst (Ex.new hLB _ _ upd_same) upd_same rfl (by show 3 ≤ 90000; decide) (fun i x y h1 h2 => ?_), fun H9 e9 => ?_⟩⟩⟩
      · match i, h1, h2 with
        | 0, h1, h2 => cases h1; cases h2; exact .bl' rfl
        | 1, h1, h2 => cases h1; cases h2; exact .str'
        | 2, h1, h2 => cases h1; cases h2; exact .str'
        | i + 3, h1, h2 => simp at h1
      · have e39 := e4.trans (e5.trans (e6.trans (e7.trans ((Ex.new hLA).trans ((Ex.new hLB).trans e9)))))
        exact q H9 ((ExtN.of e1).trans (n3.trans (ExtN.of e39))) (t3.ext e39)
end
end Eyes

set_option Elab.async false
set_option linter.all false
set_option maxRecDepth 100000
/-! e + "c" + f.replace(..): the constant in the middle gives the token that replace wants. -/
namespace Eyes
open PySem PySem.Spec PyProof.Rows L2
theorem pe_opCR {X : Cx} {a f : Expr} {op1 op2 : Operator} {c : Str} {j : Nat} {cp p1 p2 : Pos} {r1 r2 : R2} {ta tf : TE} (ho1 : OpR X (binaryOp op1) r1) (ho2 : OpR X (binaryOp op2) r2) (ha : PE X a ta) (hf : PET X f tf) :
    PE X (.BinOp (.BinOp a op1 (.Constant (.str c) j cp) p1) op2 f p2) (tOp r2 (tOp r1 ta (tC (.str c))) tf) := by
  refine ⟨fun pins s σ H Q I h => ?_⟩
  have hl : wpAny (model X.prog X.w) X.A (eval (.BinOp a op1 (.Constant (.str c) j cp) p1) X.env) (fun v s1 => 1 ≤ s1.toks ∧ EP X pins σ (fun x H1 => tf σ H1 fun y H2 => r2 x y H2 Q) v s1) X.xe s := by
    refine wpAny_BinOp (thn (ha.run pins s σ H _ I h) fun v s1 ⟨x, H1, I1, e1, q1⟩ => ?_)
    refine Calls.Constant_str ?_
    refine wpAny_mono (PySem.wpAny_toks (ho1 pins { s1 with toks := s1.toks + 1 } σ H1 x (.str c) v _ _ (I1.tok _) e1 ⟨_, rfl⟩ q1)) (fun v2 s2 q => ⟨?_, q.2⟩) fun _ _ z => z.2
    have := q.1
    have : s1.toks + 1 ≤ s2.toks := this
    omega
  refine wpAny_BinOp (thn hl fun v s1 ⟨ht, x, H1, I1, e1, q1⟩ => ?_)
  exact thn (hf pins s1 σ H1 _ ht I1 q1) fun u s2 ⟨y, H2, I2, e2, q2⟩ => ho2 pins s2 σ H2 x y v u Q I2 e1 e2 q2
end Eyes

set_option Elab.async false
set_option linter.all false
set_option maxRecDepth 100000
set_option maxHeartbeats 4000000
/-! A title that is not taken. -/
namespace Eyes
open PySem PySem.Spec PyProof.Rows L2 Evl TL
theorem inV_mem {z : Str} {ts : List Str} (h : z ∈ ts) : inV (.str z) (ts.map V.str) = true := by
  unfold inV
  rw [List.any_map, List.any_eq_true]
  exact ⟨z, h, by show (z == z) = true; exact beq_self_eq_true z⟩
def spTtlN : Sp := fun vs H Q _ => ∃ (b tk : Addr) (G : Hp) (ts : List Str), vs = [.ref b, .ref tk] ∧ At b G H ∧ G tk = some (.lst (ts.map V.str)) ∧ ts.length ≤ 20 ∧ ∀ z H', nm z → z ∉ ts → At b G H' → Q (.str z) H'
section
variable {P : Program} {w : World} {K : PySem.W.Frag} {mg : Str → Option Value} {base : Heap} {AA : Adr}
theorem ok_law_titleN (T : Txt K mg AA) : Pr P w K mg base "_law_title" s_law_title p_law_title 3 spTtlN := by
  refine pr_mk T.f_law_title sc_law_title (fun vs H Q E h => ?_) (fun f cdv A outer s H vs Q E hr h => ?_)
  · obtain ⟨b, tk, G, ts, rfl, _⟩ := h
    rfl
  · obtain ⟨b, tk, G, ts, rfl, hA, hT, hts, q⟩ := h
    refine ⟨_, (Evl.pss_cut (ps_if (pt_cmpR op_eq (pcall (ok_law_draw T) hr (pa_cons (pv 0) (pa_cons pe_int pa_nil))) pe_int (nomark _))
      (pss_one (ps_set (i := 2) sc_law_title.nd rfl (.inl rfl) (pcall (ok_law_of T) hr (pa_cons (pv 0) (pa_cons (pe_lst (pa_cons pe_str (pa_cons pe_str (pa_cons pe_str (pa_cons pe_str (pa_cons pe_str (pa_cons pe_str (pa_cons pe_str (pa_cons pe_str (pa_cons pe_str (pa_cons pe_str (pa_cons pe_str pa_nil)))))))))))) pa_nil)))))
      (pss_one (ps_set (i := 2) sc_law_title.nd rfl (.inl rfl) (pe_join pe_str (pe_lc (own := [("_law_k", 3)]) (g := gName 3) (tt := tYes) rfl sc_law_title.nd (pi_range1 (by rfl) T.n_range (pa_cons (pe_op op_add pe_int (pcall (ok_law_draw T) hr (pa_cons (pv 0) (pa_cons pe_int pa_nil)))) pa_nil)) (blkOk_by (own := [("_law_k", 3)]) (N := n_law_title) (sc := defScope s_law_title) (by decide +kernel)) (fun _ _ _ _ _ => (pg_name (i := 3) sc_law_title.nd rfl (.inl rfl))) (fun _ _ _ _ _ => pts_nil) (fun _ _ _ _ _ => (pcall (ok_law_of T) hr (pa_cons (pv 0) (pa_cons pe_str pa_nil)))))))))
      (pss_cons (ps_if (pt_cmpR (op_in_seqK (K := K) rfl) (pv 2) (pv 1) (by rfl))
      (pss_one (ps_set (i := 2) sc_law_title.nd rfl (.inl rfl) (pe_ix (ix_listK (K := K) rfl) (pe_lc (own := [("_law_sign", 4)]) (g := gName 4) rfl sc_law_title.nd (pi_str pe_str) (blkOk_by (own := [("_law_sign", 4)]) (N := n_law_title) (sc := defScope s_law_title) (by decide +kernel)) (fun _ _ _ _ _ => (pg_name (i := 4) sc_law_title.nd rfl (.inl rfl))) (fun _ _ _ _ _ => (pts_one (pt_cmpR (op_notIn_seqK (K := K) rfl) (pv 4) (pv 1) (by rfl)))) (fun _ _ _ _ _ => (pv 4))) pe_int (fun _ _ => rfl))))
      pss_nil)
      (pss_one (ps_ret (pv 2))))), ?_⟩
    refine ⟨fun σ H' => ∃ (z : Str) (y3 y4 : Option V), σ = [some (.ref b), some (.ref tk), some (.str z), y3, y4] ∧ nm z ∧ At b G H', ?_, fun σ H' hM => ?_⟩
    · refine ⟨_, rfl, b, 7, G, rfl, hA, by decide, by decide, fun tn H1 t0 t1 hA1 => ⟨rfl, _, rfl, ite2 (fun hb => ?_) (fun hb => ?_)⟩⟩
      · refine ⟨_, rfl, by show 11 ≤ sizeLine; decide, fun p hp => ?_⟩
        refine ⟨b, .ref p, _, _, rfl, hA1.new hp, .inl ⟨p, rfl, sq_of upd_same⟩, by decide +kernel, by decide +kernel, fun v H6 hv hA6 => ?_⟩
        have hA7 := hA6.weak (Ex.new (hA1.nh hp))
        obtain ⟨y, rfl, hy⟩ := nms_of (by decide +kernel) hv
        exact ⟨y, none, none, rfl, hy, hA7⟩
      · refine ⟨⟨_, rfl⟩, _, rfl, b, 6, G, rfl, hA1, by decide, by decide, fun sz H2 z0 z1 hA2 => ?_⟩
        refine ⟨1, sz, rfl, rfl, _, rfl, by omega, by omega, fun D hD => lc_it walk_range (fun i H' => ∃ cs : List Nat, cs.length = i ∧ (∀ c ∈ cs, 97 ≤ c ∧ c ≤ 122) ∧ At b (upd G D (.lst (cs.map fun c => V.str ⟨#[c]⟩))) H')
          ⟨[], rfl, (fun c hc => by cases hc), hA2.new hD⟩ (fun _ _ _ _ => True.intro) (fun i v H3 H4 hi hp hy => ?_) (fun H' hp => ?_)⟩
        · obtain ⟨rfl, rfl⟩ := hy
          obtain ⟨cs, hl, hc, hA3⟩ := hp
          refine ⟨rfl, ?_⟩
          refine ⟨_, rfl, b, _, _, _, rfl, hA3, .inr (.inr ⟨_, rfl, by decide +kernel, rfl⟩), by decide +kernel, by decide +kernel, fun v H5 hv hA5 => ?_⟩
          obtain ⟨c, hcm, rfl⟩ := List.mem_map.mp hv
          have hlo := low_of (by decide +kernel) c hcm
          refine ⟨_, hA5.ex _ _ upd_same, ?_, cs ++ [c], by simp [hl], ?_, ?_⟩
          · rw [List.length_map]
            exact sz_lt (by omega)
          · intro d hd
            rcases List.mem_append.mp hd with h | h
            · exact hc d h
            · rw [List.mem_singleton.mp h]
              exact hlo
          · rw [List.map_append]
            exact hA5.put
        · obtain ⟨cs, hl, hc, hA3⟩ := hp
          have hlen : cs.length ≤ 6 := by omega
          have hlen1 : 1 ≤ cs.length := by omega
          refine ⟨"", D, cs.map fun c => ⟨#[c]⟩, rfl, rfl, .inl (sq_of ((hA3.ex _ _ upd_same).trans (by rw [List.map_map]; rfl))), sum_signs (by omega), ?_⟩
          have hz : nm (Txt.join ("" : Str) (cs.map fun c => ⟨#[c]⟩)) := by
            have e := join_signs cs
            refine ⟨by rw [len_tl, e]; exact hlen1, by rw [len_tl, e]; exact hlen, fun c h => ?_⟩
            rw [e] at h
            exact hc c h
          exact ⟨_, none, none, rfl, hz, hA3.weak (Ex.new (hA2.nh hD))⟩
    · obtain ⟨z, y3, y4, rfl, hz, hA⟩ := hM
      have hT1 := hA.ex _ _ hT
      refine ⟨_, rfl, _, rfl, tk, ts.map V.str, rfl, .inl (sq_of hT1), rfl, flat_strs ts, _, rfl, ite2 (fun hb => ?_) (fun hb => ?_)⟩
      · have hnd : (Str.ofString "xkvjqgzwybhfpmucldnrsoiaet").cps.toList.Nodup := by decide +kernel
        have hlow : ∀ c ∈ (Str.ofString "xkvjqgzwybhfpmucldnrsoiaet").cps.toList, 97 ≤ c ∧ c ≤ 122 := low_of (by decide +kernel)
        have h26 : (Str.ofString "xkvjqgzwybhfpmucldnrsoiaet").length = 26 := by decide +kernel
        generalize (Str.ofString "xkvjqgzwybhfpmucldnrsoiaet") = zz at hnd hlow h26
        have hz26 : zz.cps.size = 26 := h26
        refine ⟨_, rfl, fun D hD => lc_it (walk_str (z := zz)) (fun i H' => At b (upd G D (.lst (((zz.cps.toList.take i).filter fun c => !inV (.str ⟨#[c]⟩) (ts.map V.str)).map fun c => V.str ⟨#[c]⟩))) H') (hA.new hD) (fun _ _ _ _ => True.intro) (fun i v H3 H4 hi hp hy => ?_) (fun H' hp => ?_)⟩
        · obtain ⟨rfl, c, hc, rfl⟩ := hy
          have hDG : G D = none := hA.nh hD
          have hT3 : (upd G D (.lst (((zz.cps.toList.take i).filter fun c => !inV (.str ⟨#[c]⟩) (ts.map V.str)).map fun c => V.str ⟨#[c]⟩))) tk = some (.lst (ts.map V.str)) := (upd_ne (ne_of_none hT hDG)).trans hT
          have hc' : zz.cps.toList[i]? = some c := by rw [Array.getElem?_toList]; exact hc
          refine ⟨rfl, _, rfl, _, rfl, tk, ts.map V.str, rfl, .inl (sq_of (hp.ex _ _ hT3)), rfl, flat_strs ts, _, rfl, ite2 (fun hb => ?_) (fun hb => ?_)⟩
          · have hb : (!inV (.str ⟨#[c]⟩) (ts.map V.str)) = true := hb
            refine ⟨_, rfl, _, hp.ex _ _ upd_same, ?_, ?_⟩
            · rw [List.length_map]
              refine sz_lt (Nat.lt_of_le_of_lt (List.length_filter_le _ _) ?_)
              rw [List.length_take]
              omega
            · have e : ((zz.cps.toList.take (i + 1)).filter fun c => !inV (.str ⟨#[c]⟩) (ts.map V.str)) = ((zz.cps.toList.take i).filter fun c => !inV (.str ⟨#[c]⟩) (ts.map V.str)) ++ [c] := by
                rw [List.take_add_one, hc', List.filter_append]
                show _ ++ List.filter _ [c] = _
                rw [List.filter_cons, if_pos hb]
                rfl
              rw [e, List.map_append]
              exact hp.put
          · have hb : ¬ (!inV (.str ⟨#[c]⟩) (ts.map V.str)) = true := hb
            have e : ((zz.cps.toList.take (i + 1)).filter fun c => !inV (.str ⟨#[c]⟩) (ts.map V.str)) = ((zz.cps.toList.take i).filter fun c => !inV (.str ⟨#[c]⟩) (ts.map V.str)) := by
              rw [List.take_add_one, hc', List.filter_append]
              show _ ++ List.filter _ [c] = _
              rw [List.filter_cons, if_neg hb]
              exact List.append_nil _
            show At b (upd G D (.lst (((zz.cps.toList.take (i + 1)).filter fun c => !inV (.str ⟨#[c]⟩) (ts.map V.str)).map fun c => V.str ⟨#[c]⟩))) H4
            rw [e]
            exact hp
        · rw [List.take_of_length_le (by rw [Array.length_toList]; exact Nat.le_refl _)] at hp
          have hne := free_sign (ts := ts) hnd (by omega)
          have hlow2 : ∀ c ∈ zz.cps.toList.filter (fun c => !inV (.str ⟨#[c]⟩) (ts.map V.str)), (97 ≤ c ∧ c ≤ 122) ∧ (⟨#[c]⟩ : Str) ∉ ts := fun c hc => ⟨hlow c (List.mem_filter.mp hc).1, fun z => by
            have h := (List.mem_filter.mp hc).2
            rw [inV_mem z] at h
            cases h⟩
          revert hp hne hlow2
          generalize (zz.cps.toList.filter fun c => !inV (.str ⟨#[c]⟩) (ts.map V.str)) = fl
          intro hp hne hlow2
          cases fl with
          | nil => exact absurd rfl hne
          | cons c r =>
            refine ⟨D, _, 0, .str ⟨#[c]⟩, rfl, rfl, sq_of (hp.ex _ _ upd_same), at_of (j := 0) rfl rfl, _, rfl, q _ _ ?_ (hlow2 c List.mem_cons_self).2 (hp.weak (Ex.new (hA.nh hD)))⟩
            refine ⟨Nat.le_refl 1, (show 1 ≤ 6 by decide), fun x hx => ?_⟩
            have hx : x ∈ [c] := hx
            rw [List.mem_singleton.mp hx]
            exact (hlow2 c List.mem_cons_self).1
      · exact ⟨_, rfl, q z _ hz (fun h => hb (inV_mem h)) hA⟩
end
end Eyes

set_option Elab.async false
set_option linter.all false
set_option maxRecDepth 100000
set_option maxHeartbeats 4000000
/-! A drawn parting (split off V6). -/
namespace Eyes
open PySem PySem.Spec PyProof.Rows L2 Evl TL
def spRows : Sp := fun vs H Q _ => ∃ (b : Addr) (n : Nat) (G : Hp), vs = [.ref b, .int n] ∧ At b G H ∧ 1 ≤ n ∧ n ≤ 60 ∧ ∀ (p : List Nat) r G' H', IsP n p → Ex G G' → G' r = some (.tup (nvs p)) → At b G' H' → Q (.ref r) H'
section
variable {P : Program} {w : World} {K : PySem.W.Frag} {mg : Str → Option Value} {base : Heap} {AA : Adr}
theorem ok_law_rows (T : Txt K mg AA) : Pr P w K mg base "_law_rows" s_law_rows p_law_rows 3 spRows := by
  refine pr_mk T.f_law_rows sc_law_rows (fun vs H Q E h => ?_) (fun f cdv A outer s H vs Q E hr h => ?_)
  · obtain ⟨b, n, G, rfl, _⟩ := h
    rfl
  · obtain ⟨b, n, G, rfl, hA, h1, hn, q⟩ := h
    refine ⟨_, (pss_cons (ps_set (i := 2) sc_law_rows.nd rfl (.inl rfl) (pe_lst pa_nil))
      (pss_cons (ps_for PassesOwn.never rfl (pi_range1 (by rfl) T.n_range (pa_cons (pv 1) pa_nil)) (pg_name (i := 3) sc_law_rows.nd rfl (.inl rfl))
      (pss_cons (ps_set (i := 4) sc_law_rows.nd rfl (.inl rfl) (pe_op op_cat (pe_sortedSetI (K := K) rfl rfl (pv 2) (by rfl) T.n_sorted (by rfl) T.n_set) (pe_lst (pa_cons (pe_op op_add (pv 3) pe_int) pa_nil))))
      (pss_one (ps_expr (pe_bm PySem.F.plainAttrs_list PySem.F.slot_list_append PySem.F.type_list_append mt_append (pv 2) (pa_cons (pcall (ok_law_of T) hr (pa_cons (pv 0) (pa_cons (pe_ifExp (pt_truth (pcall (ok_law_draw T) hr (pa_cons (pv 0) (pa_cons pe_int pa_nil))) (by intro _; rfl)) (pe_op op_cat (pv 4) (pe_lst (pa_cons (pe_op op_add (pv 3) pe_int) pa_nil))) (pv 4)) pa_nil))) pa_nil))))))
      (pss_one (ps_ret (pe_callTy call_tuple_of (by rfl) T.n_tuple PyProof.Rows.boot_tuple (pa_cons (pv 2) pa_nil)))))), ?_⟩
    refine ⟨by show 0 ≤ sizeLine; decide, fun F nF => ?_⟩
    have hA1 := hA.new (o := .lst []) nF
    have nFG := hA.nh nF
    refine ⟨_, rfl, _, rfl, by omega, by omega, ?_⟩
    rw [show ((n : Nat) : Int).toNat = n by omega]
    refine for_it walk_range (fun i σ H' => ∃ (y3 y4 : Option V) (p : List Nat) (G1 : Hp), σ = [some (.ref b), some (.int n), some (.ref F), y3, y4] ∧ At b G1 H' ∧ Ex G G1 ∧ G1 F = some (.lst (nvs p)) ∧ IsP i p) ⟨none, none, [], _, rfl, hA1, Ex.new nFG, upd_same, isP_nil⟩ (fun _ _ _ _ _ => trivial) (fun i v σ H3 H4 hi hp hy => ?_) (fun σ H' hp => ?_)
    · obtain ⟨y3, y4, p, G1, rfl, hA2, e1, hF, hP⟩ := hp
      obtain ⟨rfl, rfl⟩ := hy
      have hm : nvs p = (p.map (fun x : Nat => (x : Int))).map V.int := by
        unfold nvs
        rw [List.map_map]
        rfl
      have hF2 := hF
      rw [hm] at hF2
      refine ⟨_, rfl, F, _, rfl, sq_of (hA2.ex _ _ hF2), by rw [List.length_map, hP.len]; omega, fun ys S so mm ll nS => ?_⟩
      rw [List.length_map, hP.len] at ll
      have a3 := hA2.new (o := .lst (ys.map V.int)) nS
      have x3 := Ex.new (o := .lst (ys.map V.int)) (hA2.nh nS)
      refine ⟨_, rfl, _, 1, rfl, rfl, by show 1 ≤ sizeLine; decide, fun pk npk => ?_⟩
      have a4 := a3.new (o := .lst [.int (0 + (i : Int) + 1)]) npk
      have x4 := Ex.new (o := .lst [.int (0 + (i : Int) + 1)]) (a3.nh npk)
      refine ⟨S, pk, ys.map V.int, _, rfl, rfl, a4.ex _ _ (x4 _ _ upd_same), upd_same, sz_of (by rw [List.length_map]; show ys.length + 1 ≤ 100000; omega), fun pr npr => ?_⟩
      have a5 := a4.new (o := .lst (ys.map V.int ++ [.int (0 + (i : Int) + 1)])) npr
      have x5 := Ex.new (o := .lst (ys.map V.int ++ [.int (0 + (i : Int) + 1)])) (a4.nh npr)
      have x35 := x3.trans (x4.trans x5)
      have fin : ∀ (v : V) (G2 H5 : Hp), (v ∈ ys.map V.int ++ [.int (0 + (i : Int) + 1)] ∨ v = .int (0 + (i : Int) + 1)) → Ex G1 G2 → At b G2 H5 → ∃ (xs : List V), H5 F = some (.lst xs) ∧ xs.length + 1 ≤ sizeLine ∧ ∃ (y3 y4 : Option V) (p : List Nat) (G1 : Hp), [some (V.ref b), some (V.int ↑n), some (V.ref F), some (V.int (0 + (i : Int))), some (V.ref pr)] = [some (.ref b), some (.int n), some (.ref F), y3, y4] ∧ At b G1 (upd H5 F (.lst (xs ++ [v]))) ∧ Ex G G1 ∧ G1 F = some (.lst (nvs p)) ∧ IsP (i + 1) p := fun v G2 H5 hv e2 hA5 => by
        obtain ⟨m, rfl, hm⟩ : ∃ m : Nat, v = .int (m : Int) ∧ (m = i + 1 ∨ m ∈ p) := by
          have hv : v ∈ ys.map V.int ∨ v = .int (0 + (i : Int) + 1) := by
            rcases hv with h | h
            · rcases List.mem_append.mp h with h | h
              · exact .inl h
              · exact .inr (List.mem_singleton.mp h)
            · exact .inr h
          rcases hv with h | h
          · obtain ⟨y, hy, rfl⟩ := List.mem_map.mp h
            obtain ⟨x, hx, rfl⟩ := List.mem_map.mp ((mm y).mp hy)
            exact ⟨x, rfl, .inr hx⟩
          · exact ⟨i + 1, by rw [h]; congr 1; omega, .inl rfl⟩
        have h5 : G2 F = some (.lst (nvs p)) := e2 _ _ hF
        refine ⟨nvs p, hA5.ex _ _ h5, sz_of (by rw [nvs_len, hP.len]; omega), _, _, p ++ [m], _, rfl, hA5.put' h5, (e1.trans e2).mut nFG, ?_, isP_snoc hP hm⟩
        rw [upd_same]
        unfold nvs
        rw [List.map_append]
        rfl
      refine ⟨_, rfl, .inl ⟨rfl, nvs p, sq_of (a5.ex _ _ (x35 _ _ hF))⟩, _, rfl, _, rfl, b, 2, _, rfl, a5, by omega, by omega, fun d H5 d0 d1 hA5 => ⟨d != 0, rfl, ite2 (fun hd => ?_) (fun hd => ?_)⟩⟩
      · refine ⟨_, rfl, _, rfl, _, 1, rfl, rfl, by show 1 ≤ sizeLine; decide, fun pk2 npk2 => ?_⟩
        have a6 := hA5.new (o := .lst [.int (0 + (i : Int) + 1)]) npk2
        have x6 := Ex.new (o := .lst [.int (0 + (i : Int) + 1)]) (hA5.nh npk2)
        refine ⟨pr, pk2, _, _, rfl, rfl, a6.ex _ _ (x6 _ _ upd_same), upd_same, sz_of (by rw [List.length_append, List.length_map]; show (ys.length + 1) + 1 ≤ 100000; omega), fun pr2 npr2 => ?_⟩
        have a7 := a6.new (o := .lst ((ys.map V.int ++ [.int (0 + (i : Int) + 1)]) ++ [.int (0 + (i : Int) + 1)])) npr2
        have x7 := Ex.new (o := .lst ((ys.map V.int ++ [.int (0 + (i : Int) + 1)]) ++ [.int (0 + (i : Int) + 1)])) (a6.nh npr2)
        refine ⟨b, .ref pr2, _, _, rfl, a7, .inl ⟨pr2, rfl, sq_of upd_same⟩, by simp, by rw [List.length_append, List.length_append, List.length_map]; show (ys.length + 1) + 1 < _; omega, fun v H6 hv hA6 => ?_⟩
        obtain ⟨xs, g1, g2, g3⟩ := fin v _ H6 (by
          rcases List.mem_append.mp hv with h | h
          · exact .inl h
          · exact .inr (List.mem_singleton.mp h)) (x35.trans (x6.trans x7)) hA6
        exact ⟨F, xs, v, rfl, rfl, g1, g2, g3⟩
      · refine ⟨_, rfl, b, .ref pr, _, _, rfl, hA5, .inl ⟨pr, rfl, sq_of upd_same⟩, by simp, by rw [List.length_append, List.length_map]; show ys.length + 1 < _; omega, fun v H6 hv hA6 => ?_⟩
        obtain ⟨xs, g1, g2, g3⟩ := fin v _ H6 (.inl hv) x35 hA6
        exact ⟨F, xs, v, rfl, rfl, g1, g2, g3⟩
    · obtain ⟨y3, y4, p, G1, rfl, hA2, e1, hF, hP⟩ := hp
      refine ⟨_, rfl, F, _, rfl, .inl ⟨sq_of (hA2.ex _ _ hF), fun r nr => ?_⟩⟩
      exact q p r _ _ hP (e1.trans (Ex.new (hA2.nh nr))) upd_same (hA2.new nr)
end
end Eyes

set_option Elab.async false
set_option linter.all false
set_option maxRecDepth 100000
set_option maxHeartbeats 8000000
/-! Same numbers; the part beside the bag. -/
namespace Eyes
open PySem PySem.Spec PyProof.Rows L2 Evl TL
theorem At.allF {b : Addr} {G H0 H : Hp} (h : At b G H0) (e : Ex H0 H) : ∃ G', At b G' H ∧ Ex G G' ∧ (∀ a o, H a = some o → (∀ xs, o ≠ .lst xs) → G' a = some o) ∧ ∀ a o, H0 a = none → H a = some o → G' a = some o := by
  obtain ⟨G', h1, h2, h3⟩ := h.all e
  refine ⟨G', h1, h2, fun a o ha hn => ?_, fun a o hn ha => ?_⟩
  · rw [h3 a fun xs hx => ?_]
    · exact ha
    · have := e _ _ hx
      rw [ha] at this
      exact hn xs (Option.some.inj this)
  · rw [h3 a fun xs hx => by rw [hn] at hx; cases hx]
    exact ha
end Eyes

set_option Elab.async false
set_option linter.all false
set_option maxRecDepth 100000
set_option maxHeartbeats 4000000
/-! A row mixed. -/
namespace Eyes
open PySem PySem.Spec PyProof.Rows L2 Evl TL
def spMixed : Sp := fun vs H Q _ => ∃ (b l : Addr) (G : Hp) (xs : List V), vs = [.ref b, .ref l] ∧ At b G H ∧ G l = some (.lst xs) ∧ xs.length ≤ 1000 ∧ ∀ l' ys H', G l' = none → At b (upd G l' (.lst ys)) H' → ys.Perm xs → Q (.ref l') H'
section
variable {P : Program} {w : World} {K : PySem.W.Frag} {mg : Str → Option Value} {base : Heap} {AA : Adr}
end
end Eyes

set_option Elab.async false
set_option linter.all false
set_option maxRecDepth 100000
set_option maxHeartbeats 4000000
/-! Rows of cases: mixed, of a range, cut. -/
namespace Eyes
open PySem PySem.Spec PyProof.Rows L2 Evl TL
theorem cut_fr (xs : List V) (k : Nat) : cutV xs (some (k : Int)) none = xs.drop k := by
  unfold cutV
  rw [HT.sIx_none, HT.sIx_nat]
  rcases Nat.le_total k xs.length with h | h
  · rw [Nat.min_eq_left h, List.take_of_length_le (by rw [List.length_drop]; exact Nat.le_refl _)]
  · rw [Nat.min_eq_right h, List.drop_of_length_le h, Nat.sub_self, List.take_zero]
end Eyes

set_option Elab.async false
set_option linter.all false
set_option maxRecDepth 100000
set_option maxHeartbeats 4000000
/-! Upper letters (split off XB). -/
namespace Eyes
open PySem PySem.Spec PyProof.Rows L2 Evl TL LamX
theorem mapIdx_const {α β : Type} (f : α → β) : ∀ l : List α, l.mapIdx (fun _ x => f x) = l.map f
  | [] => rfl
  | x :: l => by
    rw [List.mapIdx_cons, List.map_cons, mapIdx_const f l]
theorem upper_tl (n : Str) : (Txt.upper n).cps.toList = (n.cps.toList.map Unicode.upperOf).flatten := by
  show (placed n fun _ c => Unicode.upperOf c).toList = _
  unfold placed
  rw [Array.toList_flatten, Array.toList_mapIdx, mapIdx_const (fun c => (Unicode.upperOf c).toArray), List.map_map]
  rfl
theorem upper_low : ∀ k : Fin 26, Unicode.upperOf (97 + k.val) = [65 + k.val] := by decide +kernel
theorem upper_len {l : List Nat} (h : ∀ x ∈ l, 97 ≤ x ∧ x ≤ 122) : (l.map Unicode.upperOf).flatten = l.map (· - 32) := by
  induction l with
  | nil => rfl
  | cons x l ih =>
    have h1 := h x List.mem_cons_self
    have h2 := upper_low ⟨x - 97, by omega⟩
    have e1 : 97 + (x - 97) = x := by omega
    have e2 : 65 + (x - 97) = x - 32 := by omega
    simp only [e1, e2] at h2
    rw [List.map_cons, List.flatten_cons, h2, ih fun y hy => h y (List.mem_cons_of_mem _ hy)]
    rfl
end Eyes

set_option Elab.async false
set_option linter.all false
set_option maxRecDepth 100000
set_option maxHeartbeats 8000000
/-! A line that may be put into a text. -/
namespace Eyes
open PySem PySem.Spec PyProof.Rows L2 Evl TL
theorem catA_goL {K : PySem.W.Frag} {H : Hp} {a b : Addr} {xs ys : List V} {Q : VK} (ha : H a = some (.tup xs)) (hb : H b = some (.tup ys)) (hl : xs.length + ys.length ≤ sizeLine) (q : ∀ t H', Ex H H' → H' t = some (.tup (xs ++ ys)) → Q (.ref t) H') : rCatA K (.ref a) (.ref b) H Q := by
  refine ⟨a, b, xs, ys, rfl, rfl, st_of ha, st_of hb, hl, fun z => ?_, fun _ z => ?_, fun _ _ p hp => q p _ (Ex.new hp) upd_same⟩
  · subst z
    exact q b H (Ex.refl _) hb
  · subst z
    refine q a H (Ex.refl _) ?_
    rw [List.append_nil]
    exact ha
theorem lst_at {b : Addr} {G H H' : Hp} {F : Addr} {vs : List V} (hA : At b G H) (hF : H F = none) (hH : upd H F (.lst vs) = H') {zs : List Str} (e : vs = zs.map V.str) (hz : ∀ z ∈ zs, Ln 200 z) : ∃ (ys : List Str) (G' : Hp), ys.length = zs.length ∧ vs = ys.map V.str ∧ (∀ z ∈ ys, Ln 200 z) ∧ At b G' H' ∧ Ex G G' ∧ G' F = some (.lst (ys.map V.str)) := by
  subst hH e
  exact ⟨zs, _, rfl, rfl, hz, hA.new hF, Ex.new (hA.nh hF), upd_same⟩
theorem rep_flat (n : Nat) (z : Str) : (List.replicate n [V.str z]).flatten = (List.replicate n z).map V.str := by
  induction n with
  | zero => rfl
  | succ k ih =>
    rw [List.replicate_succ, List.flatten_cons, ih, List.replicate_succ]
    rfl
theorem IsP.most {n : Nat} {p : List Nat} (hP : IsP n p) {a : Nat} (ha : a ∈ p) : a ≤ n := by
  obtain ⟨i, hi, rfl⟩ := List.getElem_of_mem ha
  have hi2 : i < n := by rw [← hP.len]; exact hi
  have lo := hP.lo (i + 1) (by omega) (by omega)
  have e := itm_get (p := p) (x := i + 1) (by omega) (by omega)
  rw [Nat.add_sub_cancel, List.getElem?_eq_getElem hi] at e
  rw [Option.some.inj e]
  omega
theorem fa_nil {α : Type} {p : α → Prop} : ∀ x ∈ ([] : List α), p x := fun x h => nomatch h
theorem fa_cons {α : Type} {p : α → Prop} {a : α} {l : List α} (h : p a) (hl : ∀ x ∈ l, p x) : ∀ x ∈ a :: l, p x := fun x hx => by
  rcases List.mem_cons.mp hx with rfl | hx
  · exact h
  · exact hl x hx
theorem Ln.upper {x : Str} (h : Eyes.nm x) : Ln 6 (Txt.upper x) := by
  have e : (Txt.upper x).cps.toList = x.cps.toList.map (· - 32) := (upper_tl x).trans (upper_len h.2.2)
  refine ⟨?_, fun c hc => ?_⟩
  · rw [len_tl]
    show (Txt.upper x).cps.toList.length ≤ 6
    rw [e, List.length_map]
    exact h.2.1
  · rw [show tl (Txt.upper x) = _ from e] at hc
    obtain ⟨d, hd, rfl⟩ := List.mem_map.mp hc
    have := h.2.2 d hd
    omega
theorem Ln.cut {z : Str} {L k : Nat} (h : Ln L z) : Ln L (cutS z (some (k : Int)) none) := by
  rw [cutS_from]
  refine ⟨?_, fun c hc => h.asc c (List.mem_of_mem_drop hc)⟩
  have := h.len
  rw [len_tl] at this ⊢
  show ((tl z).drop k).length ≤ L
  rw [List.length_drop]
  omega
def spLine : Sp := fun vs H Q _ => ∃ (b : Addr) (n : Nat) (D : Addr) (f : Vw) (G : Hp), vs = [.ref b, .int (n : Int), .ref D] ∧ At b G H ∧ 1 ≤ n ∧ n ≤ 12 ∧ VwAt G D n f ∧ f.length < 64 ∧ (∀ e ∈ f, nm e.1) ∧ ∀ z H', Ln 200 z → At b G H' → Q (.str z) H'
section
variable {P : Program} {w : World} {K : PySem.W.Frag} {mg : Str → Option Value} {base : Heap} {AA : Adr}
theorem ok_law_line (T : Txt K mg AA) : Pr P w K mg base "_law_line" s_law_line p_law_line 5 spLine := by
  refine pr_mk T.f_law_line sc_law_line (fun vs H Q E h => ?_) (fun f cdv A outer s H vs Q E hr h => ?_)
  · obtain ⟨b, n, D, f, G, rfl, _⟩ := h
    rfl
  · obtain ⟨b, n, D, f, G, rfl, hA, n1, n2, hV, few, hnm, q⟩ := h
    refine ⟨_, (pss_cons (ps_set (i := 3) sc_law_line.nd rfl (.inl rfl) (pcall (ok_law_titleN T) hr (pa_cons (pv 0) (pa_cons (pe_lst pa_nil) pa_nil))))
      (pss_cons (ps_set (i := 4) sc_law_line.nd rfl (.inl rfl) (pcall (ok_law_rows T) hr (pa_cons (pv 0) (pa_cons (pv 1) pa_nil))))
      (pss_cons (ps_set (i := 5) sc_law_line.nd rfl (.inl rfl) (pe_join pe_str (pe_lc (own := [("_law_k", 10)]) (g := gName 10) (tt := tYes) rfl sc_law_line.nd (pi_tup (pv 4)) (blkOk_by (own := [("_law_k", 10)]) (N := n_law_line) (sc := defScope s_law_line) (by decide +kernel)) (fun _ _ _ _ _ => (pg_name (i := 10) sc_law_line.nd rfl (.inl rfl))) (fun _ _ _ _ _ => pts_nil) (fun _ _ _ _ _ => (pe_callTy call_str_int (by rfl) T.n_str PyProof.Rows.boot_str (pa_cons (pv 10) pa_nil))))))
      (pss_cons (ps_set (i := 6) sc_law_line.nd rfl (.inl rfl) (pcall (ok_law_draw T) hr (pa_cons (pv 0) (pa_cons (pv 1) pa_nil))))
      (pss_cons (ps_set (i := 7) sc_law_line.nd rfl (.inl rfl) (pe_op op_catA (pe_op op_catA (pe_slice sl_tup (pv 4) po_none (po_some (pv 6))) (pe_tup (pa_cons (pcall (ok_law_draw T) hr (pa_cons (pv 0) (pa_cons (pe_op op_add (pv 1) pe_int) pa_nil))) pa_nil))) (pe_slice sl_tup (pv 4) (po_some (pe_op op_add (pv 6) pe_int)) po_none)))
      (pss_cons (ps_set (i := 8) sc_law_line.nd rfl (.inl rfl) (pcall (ok_law_of T) hr (pa_cons (pv 0) (pa_cons (pe_op op_cat (pe_callTy (call_list_dK rfl) (by rfl) T.n_list PyProof.Rows.boot_list (pa_cons (pv 2) pa_nil)) (pe_lst (pa_cons (pv 3) pa_nil))) pa_nil))))
      (pss_cons (ps_set (i := 9) sc_law_line.nd rfl (.inl rfl) (pe_lst (pa_cons (pe_op op_add_str (pe_op op_add_str (pv 3) pe_str) (pv 5)) (pa_cons (pe_op op_add_str (pe_op op_add_str (pv 3) pe_str) (pv 5)) (pa_cons (pe_op op_add_str (pe_op op_add_str (pv 8) pe_str) (pv 5)) (pa_cons (pe_op op_add_str (pe_op op_add_str (pe_op op_add_str (pv 3) pe_str) (pv 5)) pe_str) (pa_cons (pe_op op_add_str (pe_op op_add_str (pv 3) pe_str) (pv 5)) pa_nil)))))))
      (pss_cons (ps_set (i := 9) sc_law_line.nd rfl (.inl rfl) (pe_op op_cat (pv 9) (pe_lst (pa_cons (pe_op op_add_str (pe_op op_add_str (pv 3) pe_str) (pe_slice sl_str (pv 5) (po_some pe_int) po_none)) (pa_cons pe_str (pa_cons pe_str (pa_cons (pv 3) (pa_cons (pe_op op_add_str (pv 3) pe_str) (pa_cons (pe_op op_add_str (pe_op op_add_str (pv 3) pe_str) (pe_join pe_str (pe_lc (own := [("_law_k", 10)]) (g := gName 10) (tt := tYes) rfl sc_law_line.nd (pi_tup (pv 7)) (blkOk_by (own := [("_law_k", 10)]) (N := n_law_line) (sc := defScope s_law_line) (by decide +kernel)) (fun _ _ _ _ _ => (pg_name (i := 10) sc_law_line.nd rfl (.inl rfl))) (fun _ _ _ _ _ => pts_nil) (fun _ _ _ _ _ => (pe_callTy call_str_int (by rfl) T.n_str PyProof.Rows.boot_str (pa_cons (pv 10) pa_nil)))))) pa_nil)))))))))
      (pss_cons (ps_set (i := 9) sc_law_line.nd rfl (.inl rfl) (pe_op op_cat (pv 9) (pe_lst (pa_cons (pe_op op_add_str (pe_op op_add_str (pe_op op_add_str (pv 3) pe_str) (pv 5)) pe_str) (pa_cons (pe_op op_add_str (pe_op op_add_str (pe_upper (pv 3)) pe_str) (pv 5)) (pa_cons (pe_op op_add_str pe_str (pv 5)) (pa_cons (pe_op op_add_str pe_str (pv 5)) (pa_cons (pe_op op_add_str pe_str (pv 5)) pa_nil))))))))
      (pss_cons (ps_set (i := 9) sc_law_line.nd rfl (.inl rfl) (pe_op op_cat (pv 9) (pe_lst (pa_cons (pe_op op_add_str (pe_op op_add_str (pv 3) pe_str) (pv 5)) (pa_cons (pe_op op_add_str (pe_op op_add_str (pv 3) pe_str) (pv 5)) (pa_cons (pe_op op_add_str (pe_op op_add_str (pv 3) pe_str) (pe_join pe_str (pe_op op_rep (pe_lst (pa_cons pe_str pa_nil)) (pv 1)))) (pa_cons (pe_op op_add_str pe_str (pe_callTy call_str_int (by rfl) T.n_str PyProof.Rows.boot_str (pa_cons (pv 1) pa_nil))) pa_nil)))))))
      (pss_cons (ps_set (i := 9) sc_law_line.nd rfl (.inl rfl) (pe_op op_cat (pv 9) (pe_lst (pa_cons (pe_op op_add_str (pe_op op_add_str (pv 3) pe_str) (pe_join pe_str (pe_lc (own := [("_law_k", 10)]) (g := gName 10) (tt := tYes) rfl sc_law_line.nd (pi_tup (pcall (ok_law_alone T) hr (pa_cons (pv 1) pa_nil))) (blkOk_by (own := [("_law_k", 10)]) (N := n_law_line) (sc := defScope s_law_line) (by decide +kernel)) (fun _ _ _ _ _ => (pg_name (i := 10) sc_law_line.nd rfl (.inl rfl))) (fun _ _ _ _ _ => pts_nil) (fun _ _ _ _ _ => (pe_callTy call_str_int (by rfl) T.n_str PyProof.Rows.boot_str (pa_cons (pv 10) pa_nil)))))) (pa_cons (pe_op op_add_str pe_str (pv 5)) (pa_cons (pe_op op_add_str pe_str (pv 5)) pa_nil))))))
      (pss_one (ps_ret (pcall (ok_law_of T) hr (pa_cons (pv 0) (pa_cons (pe_op op_cat (pv 9) (pe_lst (pa_cons (pe_opCR op_add_str op_add_str (pv 3) (CwR.pet_replC (pv 5))) (pa_cons (pe_op op_add_str (pe_op op_add_str (pv 3) pe_str) (pv 5)) (pa_cons (pe_op op_add_str pe_str (pv 5)) pa_nil))))) pa_nil)))))))))))))))), ?_⟩
    have big : 16777216 ≤ sizeLine := by rw [sizeLine_eq]; decide
    -- x
    refine ⟨_, rfl, by show 0 ≤ sizeLine; decide, fun L0 hL0 => ⟨b, L0, _, [], rfl, hA.new hL0, upd_same, by decide, fun x H1 hx _ hA1 => ?_⟩⟩
    have hA1 := hA1.weak (Ex.new (hA.nh hL0))
    -- rows
    refine ⟨_, rfl, _, rfl, b, n, G, rfl, hA1, n1, by omega, fun p r G2 H2 hP x2 hr hA2 => ?_⟩
    have hs : ∀ a ∈ p, a ≤ 20 := fun a ha => by
      obtain ⟨i, hi, rfl⟩ := List.getElem_of_mem ha
      have hi2 : i < n := by rw [← hP.len]; exact hi
      have lo := hP.lo (i + 1) (by omega) (by omega)
      have e := itm_get (p := p) (x := i + 1) (by omega) (by omega)
      rw [Nat.add_sub_cancel, List.getElem?_eq_getElem hi] at e
      rw [Option.some.inj e]
      omega
    have hrH := hA2.ex _ _ hr
    have hpl := hP.len
    refine ⟨⟨_, rfl⟩, _, rfl, r, rfl, ⟨_, st_of hrH⟩, fun B hB => lc_it (walk_tup (xs := nvs p)) (fun j H' => H2 B = none ∧ Ex H2 H' ∧ H' B = some (.lst ((p.take j).map fun x => V.str (natS x)))) ⟨hB, Ex.new hB, upd_same⟩ (fun j H' _ hp => st_of (hp.2.1 _ _ hrH)) (fun j v H5 H6 hj hp hy => ?_) (fun H3 hp => ?_)⟩
    · obtain ⟨rfl, hv⟩ := hy
      obtain ⟨hB1, xb, hb⟩ := hp
      rw [nvs_len] at hj
      have hxj : p[j]? = some p[j] := List.getElem?_eq_getElem hj
      rw [nvs_get hxj] at hv
      obtain rfl := Option.some.inj hv
      refine ⟨rfl, _, rfl, _, rfl, natS_log (Nat.le_trans (hs _ (List.getElem_mem hj)) (by decide)), _, hb, ?_, hB1, xb.mut hB1, ?_⟩
      · rw [List.length_map, List.length_take]
        exact sz_lt (by omega)
      · rw [upd_same, List.take_add_one, hxj, List.map_append]
        rfl
    obtain ⟨e3, hb⟩ := hp.2
    rw [nvs_len, List.take_length] at hb
    have lW : Ln 60 (Txt.join (Str.ofString " ") (p.map natS)) := (Ln.joinS (ls := p.map natS) (k := 4) fun q hq => by
      obtain ⟨x, hx, rfl⟩ := List.mem_map.mp hq
      exact Ln.num (Nat.le_trans (hs x hx) (by decide))).mono (by rw [List.length_map, hpl]; omega)
    refine ⟨_, B, p.map natS, rfl, rfl, .inl (sq_of (by rw [hb, List.map_map]; rfl)), ?_, ?_⟩
    · have := sumB (l := p.map natS) (c := 4) fun q hq => by
        obtain ⟨x, hx, rfl⟩ := List.mem_map.mp hq
        exact natS_len (Nat.le_trans (hs x hx) (by decide))
      rw [show (Str.ofString " ").length = 1 from rfl, Nat.mul_one]
      rw [List.length_map, hpl] at this ⊢
      omega
    generalize hWe : Txt.join (Str.ofString " ") (p.map natS) = W at lW ⊢
    obtain ⟨G3, hA3, x3, _, _⟩ := hA2.allF e3
    have hr3 := x3 _ _ hr
    clear hrH hb hB hp e3
    -- spot
    refine ⟨_, rfl, _, rfl, b, n, G3, rfl, hA3, by omega, by omega, fun d H4 d0 d1 hA4 => ?_⟩
    obtain ⟨s, rfl⟩ := Int.eq_ofNat_of_zero_le d0
    -- off
    refine ⟨_, rfl, _, rfl, _, rfl, r, nvs p, rfl, st_of (hA4.ex _ _ hr3), ?_, fun p1 hp1 => ?_⟩
    · intro z
      rw [HT.sIx_nat, nvs_len, hpl] at z
      omega
    rw [cut_to]
    have hA5 := hA4.new (o := .tup ((nvs p).take s)) hp1
    have x5 := Ex.new (o := .tup ((nvs p).take s)) (hA4.nh hp1)
    have hq1 := upd_same (H := G3) (a := p1) (o := HO.tup ((nvs p).take s))
    generalize upd G3 p1 (.tup ((nvs p).take s)) = G5 at hA5 x5 hq1
    generalize upd H4 p1 (.tup ((nvs p).take s)) = H5 at hA5 ⊢
    have hr5 := x5 _ _ hr3
    refine ⟨_, rfl, _, rfl, _, _, rfl, rfl, b, (n : Int) + 2, G5, rfl, hA5, by omega, by omega, fun d2 H6 c0 c1 hA6 => ⟨by show 1 ≤ sizeLine; decide, fun p2 hp2 => ?_⟩⟩
    obtain ⟨m, rfl⟩ := Int.eq_ofNat_of_zero_le c0
    have hA7 := hA6.new (o := .tup [.int (m : Int)]) hp2
    have x7 := Ex.new (o := .tup [.int (m : Int)]) (hA6.nh hp2)
    refine catA_goL (hA7.ex _ _ (x7 _ _ hq1)) (hA7.ex _ _ upd_same) (by rw [List.length_take, nvs_len, hpl]; show _ + 1 ≤ _; omega) fun t3 H8 e8 ht3 => ?_
    obtain ⟨G8, hA8, x8, g8, _⟩ := hA7.allF e8
    have ht3 := g8 _ _ ht3 (fun _ => nofun)
    have x38 := x5.trans (x7.trans x8)
    have hr8 := x38 _ _ hr3
    refine ⟨_, rfl, _, rfl, _, _, rfl, rfl, _, rfl, r, nvs p, rfl, st_of (hA8.ex _ _ hr8), ?_, fun p4 hp4 => ?_⟩
    · intro z
      rw [show (s : Int) + 1 = ((s + 1 : Nat) : Int) from rfl, HT.sIx_nat, nvs_len, hpl] at z
      omega
    rw [show (s : Int) + 1 = ((s + 1 : Nat) : Int) from rfl, cut_fr]
    have hA9 := hA8.new (o := .tup ((nvs p).drop (s + 1))) hp4
    have x9 := Ex.new (o := .tup ((nvs p).drop (s + 1))) (hA8.nh hp4)
    refine catA_goL (hA9.ex _ _ (x9 _ _ ht3)) (hA9.ex _ _ upd_same) (by rw [List.length_append, List.length_take, List.length_drop, nvs_len, hpl]; show _ + 1 + _ ≤ _; omega) fun t5 H10 e10 ht5 => ?_
    obtain ⟨G10, hA10, x10, g10, _⟩ := hA9.allF e10
    have ht5 := g10 _ _ ht5 (fun _ => nofun)
    have x310 := x38.trans (x9.trans x10)
    rw [show (nvs p).take s ++ [V.int (m : Int)] ++ (nvs p).drop (s + 1) = nvs (p.take s ++ [m] ++ p.drop (s + 1)) by
      unfold nvs
      rw [List.map_append, List.map_append, List.map_take, List.map_drop]
      rfl] at ht5
    have hso : ∀ a ∈ p.take s ++ [m] ++ p.drop (s + 1), a ≤ 20 := fun a ha => by
      rcases List.mem_append.mp ha with ha | ha
      · rcases List.mem_append.mp ha with ha | ha
        · exact hs a (List.mem_of_mem_take ha)
        · rw [List.mem_singleton.mp ha]
          omega
      · exact hs a (List.mem_of_mem_drop ha)
    have hol : (p.take s ++ [m] ++ p.drop (s + 1)).length = n := by
      rw [List.length_append, List.length_append, List.length_take, List.length_drop, hpl]
      show _ + 1 + _ = n
      omega
    generalize p.take s ++ [m] ++ p.drop (s + 1) = o at ht5 hso hol
    have hV10 := hV.mono (x2.trans (x3.trans x310))
    clear hA4 hA5 hA6 hA7 hA8 hA9 hq1 ht3 e8 e10 g8 g10 hr5 hr8 x5 x7 x8 x9 x10 x38 hr hr3 hp1 hp2 hp4
    -- old
    obtain ⟨W0, v1, v2, v3⟩ := id hV10
    refine ⟨_, rfl, _, rfl, D, vK W0, rfl, hA10.ex _ _ v1, fun q1 hq1 => ⟨_, rfl, by show 1 ≤ sizeLine; decide, fun q2 hq2 => ?_⟩⟩
    have hk : (vK W0).map (fun kv => kV kv.1) = (W0.map (·.1)).map V.str := by
      unfold vK
      rw [List.map_map, List.map_map]
      rfl
    rw [hk] at hq2 ⊢
    have hWl : W0.length < 64 := by
      rw [← v2] at few
      unfold vW at few
      rw [List.length_map] at few
      exact few
    have hA11 := hA10.new (o := .lst ((W0.map (·.1)).map V.str)) hq1
    have hA12 := hA11.new (o := .lst [.str x]) hq2
    refine ⟨q1, q2, _, _, rfl, rfl, (Ex.new hq2) _ _ upd_same, upd_same, by rw [List.length_map, List.length_map]; show _ + 1 ≤ _; omega, fun q3 hq3 => ?_⟩
    refine ⟨b, .ref q3, _, _, rfl, hA12.new hq3, .inl ⟨q3, rfl, sq_of upd_same⟩, by simp, by rw [List.length_append, List.length_map, List.length_map]; show _ + 1 < _; omega, fun v H13 hv hA13 => ?_⟩
    have hA13 := hA13.weak ((Ex.new (hA10.nh hq1)).trans ((Ex.new (hA11.nh hq2)).trans (Ex.new (hA12.nh hq3))))
    obtain ⟨y, rfl, hy⟩ : ∃ y, v = .str y ∧ Eyes.nm y := by
      rcases List.mem_append.mp hv with hv | hv
      · obtain ⟨y, hy, rfl⟩ := List.mem_map.mp hv
        obtain ⟨e, he, rfl⟩ := List.mem_map.mp hy
        exact ⟨_, rfl, hnm (e.1, e.2.2) (by rw [← v2]; exact List.mem_map.mpr ⟨e, he, rfl⟩)⟩
      · exact ⟨x, List.mem_singleton.mp hv, hx⟩
    clear hA10 hA11 hA12 hv hk hq1 hq2 hq3
    have lx := Ln.nm hx
    have ly := Ln.nm hy
    have mx := lx.len
    have my := ly.len
    have mW := lW.len
    have k1 : (Str.ofString " ").length = 1 := rfl
    have k2 : (Str.ofString "  ").length = 2 := rfl
    have k3 : (Str.ofString "cases ").length = 6 := rfl
    have k4 : (Str.ofString "abcdefg ").length = 8 := rfl
    have k5 : (Str.ofString "a1 ").length = 3 := rfl
    have k6 : (Str.ofString " 0").length = 2 := rfl
    have k7 : (Str.ofString " +").length = 2 := rfl
    have k8 : (Str.ofString "a ").length = 2 := rfl
    have k9 : (Str.ofString "zzzzzz ").length = 7 := rfl
    have k10 : (Str.ofString ",").length = 1 := rfl
    have k11 : (Str.ofString " 1").length = 2 := rfl
    have ln : Ln 4 (Str.ofString (toString (n : Int))) := Ln.num (n := n) (by omega)
    have lu := Ln.upper hx
    have lc : Ln 60 (cutS W (some 2) none) := Ln.cut (k := 2) lW
    have lr := lW.repl
    have mn := ln.len
    have mu := lu.len
    have mc := lc.len
    have mr := lr.len
    have c0 : Ln 0 (Str.ofString "") := ⟨by decide +kernel, by decide +kernel⟩
    have c1 : Ln 1 (Str.ofString " ") := ⟨by decide +kernel, by decide +kernel⟩
    have c2 : Ln 2 (Str.ofString "  ") := ⟨by decide +kernel, by decide +kernel⟩
    have c3 : Ln 6 (Str.ofString "cases ") := ⟨by decide +kernel, by decide +kernel⟩
    have c4 : Ln 8 (Str.ofString "abcdefg ") := ⟨by decide +kernel, by decide +kernel⟩
    have c5 : Ln 3 (Str.ofString "a1 ") := ⟨by decide +kernel, by decide +kernel⟩
    have c6 : Ln 2 (Str.ofString " 0") := ⟨by decide +kernel, by decide +kernel⟩
    have c7 : Ln 2 (Str.ofString " +") := ⟨by decide +kernel, by decide +kernel⟩
    have c8 : Ln 2 (Str.ofString "a ") := ⟨by decide +kernel, by decide +kernel⟩
    have c9 : Ln 7 (Str.ofString "zzzzzz ") := ⟨by decide +kernel, by decide +kernel⟩
    have c10 : Ln 1 (Str.ofString ",") := ⟨by decide +kernel, by decide +kernel⟩
    have c11 : Ln 2 (Str.ofString " 1") := ⟨by decide +kernel, by decide +kernel⟩
    repeat (first | refine ⟨⟨_, rfl⟩, _, rfl, rfl, by omega, ?_⟩ | refine ⟨_, rfl, natS_log (by omega), ?_⟩ | refine ⟨_, rfl, ?_⟩ | refine ⟨_, _, rfl, rfl, by first | omega | (simp only [Str.length_append]; omega), ?_⟩ | refine ⟨by omega, ?_⟩ | refine ⟨by rw [show (Str.ofString "01").length = 2 from rfl]; omega, ?_⟩)
    refine ⟨by show 5 ≤ sizeLine; decide, fun F1 hF1 => ?_⟩
    generalize hH1 : upd H13 F1 _ = H14
    obtain ⟨ys1, G14, hl1, _, hz1, hA14, x14, hF14⟩ := lst_at hA13 hF1 hH1 (zs := [_, _, _, _, _]) rfl (by (repeat (refine fa_cons (by (apply Ln.mono; (repeat (first | assumption | apply Ln.app)); decide)) ?_)); exact fa_nil)
    have hl1 : ys1.length = 5 := hl1
    clear hH1
    -- second
    repeat (first | refine ⟨⟨_, rfl⟩, _, rfl, rfl, by omega, ?_⟩ | refine ⟨_, rfl, natS_log (by omega), ?_⟩ | refine ⟨_, rfl, ?_⟩ | refine ⟨_, _, rfl, rfl, by first | omega | (simp only [Str.length_append]; omega), ?_⟩ | refine ⟨by omega, ?_⟩ | refine ⟨by rw [show (Str.ofString "01").length = 2 from rfl]; omega, ?_⟩)
    have ht14 := hA14.ex _ _ (x14 _ _ ht5)
    refine ⟨⟨_, rfl⟩, _, rfl, t5, rfl, ⟨_, st_of ht14⟩, fun B hB => lc_it (walk_tup (xs := nvs o)) (fun j H' => H14 B = none ∧ Ex H14 H' ∧ H' B = some (.lst ((o.take j).map fun x => V.str (natS x)))) ⟨hB, Ex.new hB, upd_same⟩ (fun j H' _ hp => st_of (hp.2.1 _ _ ht14)) (fun j v H5 H6 hj hp hy => ?_) (fun H15 hp => ?_)⟩
    · obtain ⟨rfl, hv⟩ := hy
      obtain ⟨hB1, xb, hb⟩ := hp
      rw [nvs_len] at hj
      have hxj : (o)[j]? = some (o)[j] := List.getElem?_eq_getElem hj
      rw [nvs_get hxj] at hv
      obtain rfl := Option.some.inj hv
      refine ⟨rfl, _, rfl, _, rfl, natS_log (Nat.le_trans (hso _ (List.getElem_mem hj)) (by decide)), _, hb, ?_, hB1, xb.mut hB1, ?_⟩
      · rw [List.length_map, List.length_take]
        exact sz_lt (by omega)
      · rw [upd_same, List.take_add_one, hxj, List.map_append]
        rfl
    obtain ⟨e15, hb⟩ := hp.2
    rw [nvs_len, List.take_length] at hb
    have lO : Ln 60 (Txt.join (Str.ofString " ") ((o).map natS)) := (Ln.joinS (ls := (o).map natS) (k := 4) fun q hq => by
      obtain ⟨x, hx, rfl⟩ := List.mem_map.mp hq
      exact Ln.num (Nat.le_trans (hso x hx) (by decide))).mono (by rw [List.length_map, hol]; omega)
    refine ⟨_, B, (o).map natS, rfl, rfl, .inl (sq_of (by rw [hb, List.map_map]; rfl)), ?_, ?_⟩
    · have := sumB (l := (o).map natS) (c := 4) fun q hq => by
        obtain ⟨x, hx, rfl⟩ := List.mem_map.mp hq
        exact natS_len (Nat.le_trans (hso x hx) (by decide))
      rw [show (Str.ofString " ").length = 1 from rfl, Nat.mul_one]
      rw [List.length_map, hol] at this ⊢
      omega
    generalize Txt.join (Str.ofString " ") ((o).map natS) = WO at lO ⊢
    have mlO := lO.len
    obtain ⟨G15, hA15, x15, _, _⟩ := hA14.allF e15
    have hF15 := x15 _ _ hF14
    clear hb hB hp e15
    repeat (first | refine ⟨⟨_, rfl⟩, _, rfl, rfl, by omega, ?_⟩ | refine ⟨_, rfl, natS_log (by omega), ?_⟩ | refine ⟨_, rfl, ?_⟩ | refine ⟨_, _, rfl, rfl, by first | omega | (simp only [Str.length_append]; omega), ?_⟩ | refine ⟨by omega, ?_⟩ | refine ⟨by rw [show (Str.ofString "01").length = 2 from rfl]; omega, ?_⟩)
    refine ⟨by show 6 ≤ sizeLine; decide, fun A2 hA2n => ?_⟩
    generalize hH2 : upd H15 A2 _ = H2a
    obtain ⟨ya2, G2a, hl2a, hva, hz2a, hA2a, x2a, hF2a⟩ := lst_at hA15 hA2n hH2 (zs := [_, _, _, _, _, _]) rfl (by (repeat (refine fa_cons (by (apply Ln.mono; (repeat (first | assumption | apply Ln.app)); decide)) ?_)); exact fa_nil)
    have hl2a : ya2.length = 6 := hl2a
    clear hH2 hva
    refine ⟨F1, A2, _, _, rfl, rfl, hA2a.ex _ _ (x2a _ _ hF15), hA2a.ex _ _ hF2a, by rw [List.length_map, List.length_map]; omega, fun F2 hF2n => ?_⟩
    obtain ⟨ys2, G2b, hl2b, hve, hz2b, hA2b, x2b, hF2b⟩ := lst_at hA2a hF2n rfl (zs := ys1 ++ ya2) List.map_append.symm (fun z hz => (List.mem_append.mp hz).elim (hz1 z) (hz2a z))
    rw [hve] at hA2b ⊢
    rw [List.length_append] at hl2b
    clear hve
    generalize upd H2a F2 _ = H2b at hA2b ⊢
    -- third
    repeat (first | refine ⟨⟨_, rfl⟩, _, rfl, rfl, by omega, ?_⟩ | refine ⟨_, rfl, natS_log (by omega), ?_⟩ | refine ⟨_, rfl, ?_⟩ | refine ⟨_, _, rfl, rfl, by first | omega | (simp only [Str.length_append]; omega), ?_⟩ | refine ⟨by omega, ?_⟩ | refine ⟨by rw [show (Str.ofString "01").length = 2 from rfl]; omega, ?_⟩)
    refine ⟨by show 5 ≤ sizeLine; decide, fun A3 hA3n => ?_⟩
    generalize hH3 : upd H2b A3 _ = H3a
    obtain ⟨ya3, G3a, hl3a, hva, hz3a, hA3a, x3a, hF3a⟩ := lst_at hA2b hA3n hH3 (zs := [_, _, _, _, _]) rfl (by (repeat (refine fa_cons (by (apply Ln.mono; (repeat (first | assumption | apply Ln.app)); decide)) ?_)); exact fa_nil)
    have hl3a : ya3.length = 5 := hl3a
    clear hH3 hva
    refine ⟨F2, A3, _, _, rfl, rfl, hA3a.ex _ _ (x3a _ _ hF2b), hA3a.ex _ _ hF3a, by rw [List.length_map, List.length_map]; omega, fun F3 hF3n => ?_⟩
    obtain ⟨ys3, G3b, hl3b, hve, hz3b, hA3b, x3b, hF3b⟩ := lst_at hA3a hF3n rfl (zs := ys2 ++ ya3) List.map_append.symm (fun z hz => (List.mem_append.mp hz).elim (hz2b z) (hz3a z))
    rw [hve] at hA3b ⊢
    rw [List.length_append] at hl3b
    clear hve
    generalize upd H3a F3 _ = H3b at hA3b ⊢
    -- fourth
    repeat (first | refine ⟨⟨_, rfl⟩, _, rfl, rfl, by omega, ?_⟩ | refine ⟨_, rfl, natS_log (by omega), ?_⟩ | refine ⟨_, rfl, ?_⟩ | refine ⟨_, _, rfl, rfl, by first | omega | (simp only [Str.length_append]; omega), ?_⟩ | refine ⟨by omega, ?_⟩ | refine ⟨by rw [show (Str.ofString "01").length = 2 from rfl]; omega, ?_⟩)
    refine ⟨⟨_, rfl⟩, by show 1 ≤ sizeLine; decide, fun O1 hO1 => ⟨_, rfl, O1, n, [.str (Str.ofString "1")], rfl, rfl, upd_same, by omega, by omega, by show 1 * _ ≤ _; omega, fun O2 hO2 => ?_⟩⟩
    have eO := (Ex.new (o := .lst [.str (Str.ofString "1")]) hO1).trans (Ex.new (o := .lst (List.replicate ((n : Int).toNat) [V.str (Str.ofString "1")]).flatten) hO2)
    have hre : (List.replicate ((n : Int).toNat) [V.str (Str.ofString "1")]).flatten = (List.replicate n (Str.ofString "1")).map V.str := by
      rw [Int.toNat_natCast]
      exact rep_flat n _
    have lJ : Ln 60 (Txt.join (Str.ofString " ") (List.replicate n (Str.ofString "1"))) := (Ln.joinS (ls := List.replicate n (Str.ofString "1")) (k := 1) fun q hq => by
      rw [List.eq_of_mem_replicate hq]
      exact ⟨by decide +kernel, by decide +kernel⟩).mono (by rw [List.length_replicate]; omega)
    refine ⟨_, O2, List.replicate n (Str.ofString "1"), rfl, rfl, .inl (sq_of (by rw [upd_same, hre])), ?_, ?_⟩
    · have := sumB (l := List.replicate n (Str.ofString "1")) (c := 1) fun q hq => by
        rw [List.eq_of_mem_replicate hq]
        decide +kernel
      rw [show (Str.ofString " ").length = 1 from rfl, Nat.mul_one]
      rw [List.length_replicate] at this ⊢
      omega
    generalize Txt.join (Str.ofString " ") (List.replicate n (Str.ofString "1")) = WJ at lJ ⊢
    have mJ := lJ.len
    obtain ⟨G4, hA4, x4, _, _⟩ := hA3b.allF eO
    have hF4 := x4 _ _ hF3b
    clear eO hre
    generalize upd (upd H3b O1 _) O2 _ = H4 at hA4 ⊢
    repeat (first | refine ⟨⟨_, rfl⟩, _, rfl, rfl, by omega, ?_⟩ | refine ⟨_, rfl, natS_log (by omega), ?_⟩ | refine ⟨_, rfl, ?_⟩ | refine ⟨_, _, rfl, rfl, by first | omega | (simp only [Str.length_append]; omega), ?_⟩ | refine ⟨by omega, ?_⟩ | refine ⟨by rw [show (Str.ofString "01").length = 2 from rfl]; omega, ?_⟩)
    refine ⟨by show 4 ≤ sizeLine; decide, fun A5 hA5n => ?_⟩
    generalize hH5 : upd H4 A5 _ = H5a
    obtain ⟨ya5, G5a, hl5a, hva, hz5a, hA5a, x5a, hF5a⟩ := lst_at hA4 hA5n hH5 (zs := [_, _, _, _]) rfl (by (repeat (refine fa_cons (by (apply Ln.mono; (repeat (first | assumption | apply Ln.app)); decide)) ?_)); exact fa_nil)
    have hl5a : ya5.length = 4 := hl5a
    clear hH5 hva
    refine ⟨F3, A5, _, _, rfl, rfl, hA5a.ex _ _ (x5a _ _ hF4), hA5a.ex _ _ hF5a, by rw [List.length_map, List.length_map]; omega, fun F5 hF5n => ?_⟩
    obtain ⟨ys5, G5b, hl5b, hve, hz5b, hA5b, x5b, hF5b⟩ := lst_at hA5a hF5n rfl (zs := ys3 ++ ya5) List.map_append.symm (fun z hz => (List.mem_append.mp hz).elim (hz3b z) (hz5a z))
    rw [hve] at hA5b ⊢
    rw [List.length_append] at hl5b
    clear hve
    generalize upd H5a F5 _ = H5b at hA5b ⊢
    -- fifth
    repeat (first | refine ⟨⟨_, rfl⟩, _, rfl, rfl, by omega, ?_⟩ | refine ⟨_, rfl, natS_log (by omega), ?_⟩ | refine ⟨_, rfl, ?_⟩ | refine ⟨_, _, rfl, rfl, by first | omega | (simp only [Str.length_append]; omega), ?_⟩ | refine ⟨by omega, ?_⟩ | refine ⟨by rw [show (Str.ofString "01").length = 2 from rfl]; omega, ?_⟩)
    refine ⟨⟨_, rfl⟩, _, rfl, n, rfl, by omega, fun pa hpa => ?_⟩
    have hal : (alone n).length = n := (isP_alone n).len
    have hsa : ∀ a ∈ alone n, a ≤ 20 := fun a ha => Nat.le_trans ((isP_alone n).most ha) (by omega)
    have hA6 := hA5b.new (o := .tup (nvs (alone n))) hpa
    have x6 := Ex.new (o := .tup (nvs (alone n))) (hA5b.nh hpa)
    have hF6 := x6 _ _ hF5b
    have hp6 := upd_same (H := H5b) (a := pa) (o := HO.tup (nvs (alone n)))
    generalize upd H5b pa _ = H6 at hA6 hp6 ⊢
    generalize upd G5b pa _ = G6 at hA6 x6 hF6
    refine ⟨pa, rfl, ⟨_, st_of hp6⟩, fun B hB => lc_it (walk_tup (xs := nvs (alone n))) (fun j H' => H6 B = none ∧ Ex H6 H' ∧ H' B = some (.lst (((alone n).take j).map fun x => V.str (natS x)))) ⟨hB, Ex.new hB, upd_same⟩ (fun j H' _ hp => st_of (hp.2.1 _ _ hp6)) (fun j v H5 H6 hj hp hy => ?_) (fun H7 hp => ?_)⟩
    · obtain ⟨rfl, hv⟩ := hy
      obtain ⟨hB1, xb, hb⟩ := hp
      rw [nvs_len] at hj
      have hxj : ((alone n))[j]? = some ((alone n))[j] := List.getElem?_eq_getElem hj
      rw [nvs_get hxj] at hv
      obtain rfl := Option.some.inj hv
      refine ⟨rfl, _, rfl, _, rfl, natS_log (Nat.le_trans (hsa _ (List.getElem_mem hj)) (by decide)), _, hb, ?_, hB1, xb.mut hB1, ?_⟩
      · rw [List.length_map, List.length_take]
        exact sz_lt (by omega)
      · rw [upd_same, List.take_add_one, hxj, List.map_append]
        rfl
    obtain ⟨e7, hb⟩ := hp.2
    rw [nvs_len, List.take_length] at hb
    have lAl : Ln 60 (Txt.join (Str.ofString " ") (((alone n)).map natS)) := (Ln.joinS (ls := ((alone n)).map natS) (k := 4) fun q hq => by
      obtain ⟨x, hx, rfl⟩ := List.mem_map.mp hq
      exact Ln.num (Nat.le_trans (hsa x hx) (by decide))).mono (by rw [List.length_map, hal]; omega)
    refine ⟨_, B, ((alone n)).map natS, rfl, rfl, .inl (sq_of (by rw [hb, List.map_map]; rfl)), ?_, ?_⟩
    · have := sumB (l := ((alone n)).map natS) (c := 4) fun q hq => by
        obtain ⟨x, hx, rfl⟩ := List.mem_map.mp hq
        exact natS_len (Nat.le_trans (hsa x hx) (by decide))
      rw [show (Str.ofString " ").length = 1 from rfl, Nat.mul_one]
      rw [List.length_map, hal] at this ⊢
      omega
    generalize Txt.join (Str.ofString " ") (((alone n)).map natS) = WA at lAl ⊢
    have mlAl := lAl.len
    obtain ⟨G7, hA7, x7, _, _⟩ := hA6.allF e7
    have hF7 := x7 _ _ hF6
    clear hb hB hp e7
    repeat (first | refine ⟨⟨_, rfl⟩, _, rfl, rfl, by omega, ?_⟩ | refine ⟨_, rfl, natS_log (by omega), ?_⟩ | refine ⟨_, rfl, ?_⟩ | refine ⟨_, _, rfl, rfl, by first | omega | (simp only [Str.length_append]; omega), ?_⟩ | refine ⟨by omega, ?_⟩ | refine ⟨by rw [show (Str.ofString "01").length = 2 from rfl]; omega, ?_⟩)
    refine ⟨by show 3 ≤ sizeLine; decide, fun A8 hA8n => ?_⟩
    generalize hH8 : upd H7 A8 _ = H8a
    obtain ⟨ya8, G8a, hl8a, hva, hz8a, hA8a, x8a, hF8a⟩ := lst_at hA7 hA8n hH8 (zs := [_, _, _]) rfl (by (repeat (refine fa_cons (by (apply Ln.mono; (repeat (first | assumption | apply Ln.app)); decide)) ?_)); exact fa_nil)
    have hl8a : ya8.length = 3 := hl8a
    clear hH8 hva
    refine ⟨F5, A8, _, _, rfl, rfl, hA8a.ex _ _ (x8a _ _ hF7), hA8a.ex _ _ hF8a, by rw [List.length_map, List.length_map]; omega, fun F8 hF8n => ?_⟩
    obtain ⟨ys8, G8b, hl8b, hve, hz8b, hA8b, x8b, hF8b⟩ := lst_at hA8a hF8n rfl (zs := ys5 ++ ya8) List.map_append.symm (fun z hz => (List.mem_append.mp hz).elim (hz5b z) (hz8a z))
    rw [hve] at hA8b ⊢
    rw [List.length_append] at hl8b
    clear hve
    generalize upd H8a F8 _ = H8b at hA8b ⊢
    -- the line
    repeat (first | refine ⟨⟨_, rfl⟩, _, rfl, rfl, by omega, ?_⟩ | refine ⟨_, rfl, natS_log (by omega), ?_⟩ | refine ⟨_, rfl, ?_⟩ | refine ⟨_, _, rfl, rfl, by first | omega | (simp only [Str.length_append]; omega), ?_⟩ | refine ⟨by omega, ?_⟩ | refine ⟨by rw [show (Str.ofString "01").length = 2 from rfl]; omega, ?_⟩)
    refine ⟨by show 3 ≤ sizeLine; decide, fun A9 hA9n => ?_⟩
    generalize hH9 : upd H8b A9 _ = H9a
    obtain ⟨ya9, G9a, hl9a, hva, hz9a, hA9a, x9a, hF9a⟩ := lst_at hA8b hA9n hH9 (zs := [_, _, _]) rfl (by (repeat (refine fa_cons (by (apply Ln.mono; (repeat (first | assumption | apply Ln.app)); decide)) ?_)); exact fa_nil)
    have hl9a : ya9.length = 3 := hl9a
    clear hH9 hva
    refine ⟨F8, A9, _, _, rfl, rfl, hA9a.ex _ _ (x9a _ _ hF8b), hA9a.ex _ _ hF9a, by rw [List.length_map, List.length_map]; omega, fun F9 hF9n => ?_⟩
    obtain ⟨ys9, G9b, hl9b, hve, hz9b, hA9b, x9b, hF9b⟩ := lst_at hA9a hF9n rfl (zs := ys8 ++ ya9) List.map_append.symm (fun z hz => (List.mem_append.mp hz).elim (hz8b z) (hz9a z))
    rw [hve] at hA9b ⊢
    rw [List.length_append] at hl9b
    clear hve
    generalize upd H9a F9 _ = H9b at hA9b ⊢
    refine ⟨b, .ref F9, G9b, ys9.map V.str, rfl, hA9b, .inl ⟨F9, rfl, sq_of hF9b⟩, by rw [List.length_map]; omega, by rw [List.length_map]; omega, fun v H10 hv hA10 => ?_⟩
    obtain ⟨z, hz, rfl⟩ := List.mem_map.mp hv
    refine q z H10 (hz9b z hz) (hA10.weak ?_)
    exact x2.trans (x3.trans (x310.trans (x14.trans (x15.trans (x2a.trans (x2b.trans (x3a.trans (x3b.trans (x4.trans (x5a.trans (x5b.trans (x6.trans (x7.trans (x8a.trans (x8b.trans (x9a.trans x9b))))))))))))))))
end
end Eyes

set_option Elab.async false
set_option linter.all false
set_option maxRecDepth 100000
set_option maxHeartbeats 4000000
/-! one sign * a number: the sign so many times. -/
namespace Eyes
open PySem PySem.Spec PyProof.Rows L2
theorem foldl_cat (c : Nat) : ∀ (n : Nat) (acc : Array Nat), (List.foldl (fun a b => a ++ b) acc (List.replicate n (#[c] : Array Nat))).toList = acc.toList ++ List.replicate n c
  | 0, acc => by simp
  | n + 1, acc => by
    rw [List.replicate_succ, List.foldl_cons, foldl_cat c n]
    simp [List.replicate_succ]
def rMulS : R2 := fun x y H Q => ∃ (c n : Nat), x = .str ⟨#[c]⟩ ∧ y = .int (n : Int) ∧ n ≤ 2000 ∧ Q (.str ⟨(List.replicate n c).toArray⟩) H
section
variable {X : Cx}
theorem op_mulS : OpR X (binaryOp .Mult) rMulS := by
  intro pins s σ H x y v u Q I rx ry h
  obtain ⟨c, n, rfl, rfl, hn, q⟩ := h
  obtain ⟨t1, rfl⟩ := rx
  obtain ⟨t2, rfl⟩ := ry
  have hsz : 2000 ≤ sizeLine := by decide
  have hl1 : (⟨#[c]⟩ : Str).length = 1 := rfl
  refine P.mul_str ?_ ?_ ?_ ?_
  · have a : ¬ ((n : Int) < -2 ^ 63) := by omega
    have b : ¬ ((n : Int) ≥ 2 ^ 63) := by omega
    rw [decide_eq_false a, decide_eq_false b]
    rfl
  · intro h1 _
    rw [hl1]
    intro h2
    have h3 : (2 ^ 63 - 1 : Int) / (n : Int) < 1 := h2
    have h4 : (1 : Int) ≤ (2 ^ 63 - 1 : Int) / (n : Int) := by
      rw [Int.le_ediv_iff_mul_le (by omega)]
      omega
    omega
  · intro h1 _
    show decide (_ > sizeLine) = false
    refine decide_eq_false ?_
    rw [hl1]
    omega
  · have fin : ∀ z : Str, z = ⟨(List.replicate n c).toArray⟩ → ∀ s', L2.Inv X pins σ H s' → ∀ t, EP X pins σ Q (.str z t) s' := fun z e s' I' t => by
      subst e
      exact ⟨.str _, H, I', ⟨t, rfl⟩, q⟩
    by_cases h1 : (n : Int) < 1
    · have hn0 : n = 0 := by omega
      rw [if_pos h1]
      subst hn0
      exact ⟨Nat.zero_le _, fin Str.empty rfl _ (I.tok _) _⟩
    · rw [if_neg h1]
      by_cases h2 : ((n : Int) == 1 || (⟨#[c]⟩ : Str).length == 0) = true
      · rw [if_pos h2]
        have hn1 : n = 1 := by
          rw [hl1] at h2
          simp at h2
          omega
        subst hn1
        exact fin ⟨#[c]⟩ rfl _ I _
      · rw [if_neg h2]
        have e : (⟨List.foldl (fun a b => a ++ b) #[] (List.replicate ((n : Int)).toNat (#[c] : Array Nat))⟩ : Str) = ⟨(List.replicate n c).toArray⟩ := by
          have h := foldl_cat c n #[]
          rw [List.nil_append] at h
          rw [Int.toNat_natCast]
          congr 1
          rw [← h]
        refine ⟨?_, fin _ e _ (I.tok _) _⟩
        rw [e]
        show (List.replicate n c).toArray.size ≤ _
        simp
        omega
end
end Eyes

set_option Elab.async false
set_option linter.all false
set_option maxRecDepth 100000
set_option maxHeartbeats 8000000
/-! A text with one bend. -/
namespace Eyes
open PySem PySem.Spec PyProof.Rows L2 Evl TL
theorem wgt_drop (ls : List Str) (a d : Nat) : wgt (ls.drop (a + d)) ≤ wgt (ls.drop a) := by
  have := wgt_cut (ls.drop a) d
  rw [List.drop_drop] at this
  omega
theorem wgt_reverse (ls : List Str) : wgt ls.reverse = wgt ls := by
  unfold wgt
  rw [List.map_reverse, List.sum_reverse]
theorem wgt_one (y : Str) : wgt [y] = y.length + 1 := rfl
theorem wgt_sum (ls : List Str) : (ls.map (·.length)).sum + ls.length * (Str.ofString "\n").length = wgt ls := by
  rw [show (Str.ofString "\n").length = 1 from rfl, Nat.mul_one]
  induction ls with
  | nil => rfl
  | cons a r ih =>
    unfold wgt at ih ⊢
    rw [List.map_cons, List.map_cons, List.sum_cons, List.sum_cons, List.length_cons, ← ih]
    omega
theorem cut_pair {xs : List V} {s : Nat} (h : s < xs.length) : cutV xs (some (s : Int)) (some ((s + 2 : Nat) : Int)) = (xs.drop s).take 2 := by
  unfold cutV
  rw [HT.sIx_nat, HT.sIx_nat, Nat.min_eq_left (Nat.le_of_lt h)]
  by_cases h2 : s + 2 ≤ xs.length
  · rw [Nat.min_eq_left h2, show s + 2 - s = 2 by omega]
  · rw [Nat.min_eq_right (by omega), List.take_of_length_le (by rw [List.length_drop]; omega), List.take_of_length_le (by rw [List.length_drop]; omega)]
def spBent : Sp := fun vs H Q _ => ∃ (b : Addr) (z : Str) (n : Nat) (D : Addr) (f : Vw) (G : Hp) (L N : Nat), vs = [.ref b, .str z, .int (n : Int), .ref D] ∧ At b G H ∧ Bt L N z ∧ 100 ≤ L ∧ L ≤ 1900 ∧ N ≤ 48 ∧ 1 ≤ n ∧ n ≤ 12 ∧ VwAt G D n f ∧ f.length < 64 ∧ (∀ e ∈ f, nm e.1) ∧ ∀ z H', Bt (2 * L + 140) (N + 2) z → At b G H' → Q (.str z) H'
section
variable {P : Program} {w : World} {K : PySem.W.Frag} {mg : Str → Option Value} {base : Heap} {AA : Adr}
theorem ok_law_bent (T : Txt K mg AA) : Pr P w K mg base "_law_bent" s_law_bent p_law_bent 7 spBent := by
  refine pr_mk T.f_law_bent sc_law_bent (fun vs H Q E h => ?_) (fun f cdv A outer s H vs Q E hr h => ?_)
  · obtain ⟨b, z, n, D, f, G, L, N, rfl, _⟩ := h
    rfl
  · obtain ⟨b, z, n, D, f, G, L, N, rfl, hA, hz, L1, L2, hN, n1, n2, hV, few, hnm, q⟩ := h
    refine ⟨_, (pss_cons (ps_set (i := 4) sc_law_bent.nd rfl (.inl rfl) (pe_split (pv 1) pe_str))
      (pss_cons (ps_par (i := 5) (j := 6) rfl sc_law_bent.nd rfl rfl (by decide) rfl rfl (pa_cons (pcall (ok_law_draw T) hr (pa_cons (pv 0) (pa_cons (pe_callB (call_len_seqK (K := K) rfl) (by rfl) T.n_len PySem.boot_len (pa_cons (pv 4) pa_nil)) pa_nil))) (pa_cons (pcall (ok_law_draw T) hr (pa_cons (pv 0) (pa_cons pe_int pa_nil))) pa_nil)) rfl)
      (pss_cons (ps_if (pt_cmpR op_eq (pv 6) pe_int (nomark _))
      (pss_one (ps_ret (pe_join pe_str (pe_op op_cat (pe_op op_cat (pe_slice sl_list (pv 4) po_none (po_some (pv 5))) (pe_lst (pa_cons (pcall (ok_law_line T) hr (pa_cons (pv 0) (pa_cons (pv 2) (pa_cons (pv 3) pa_nil)))) pa_nil))) (pe_slice sl_list (pv 4) (po_some (pe_op op_add (pv 5) pe_int)) po_none)))))
      pss_nil)
      (pss_cons (ps_if (pt_cmpR op_eq (pv 6) pe_int (nomark _))
      (pss_one (ps_ret (pe_join pe_str (pe_op op_cat (pe_slice sl_list (pv 4) po_none (po_some (pv 5))) (pe_slice sl_list (pv 4) (po_some (pe_op op_add (pv 5) pe_int)) po_none)))))
      pss_nil)
      (pss_cons (ps_if (pt_cmpR op_eq (pv 6) pe_int (nomark _))
      (pss_one (ps_ret (pe_join pe_str (pe_op op_cat (pe_slice sl_list (pv 4) po_none (po_some (pe_op op_add (pv 5) pe_int))) (pe_slice sl_list (pv 4) (po_some (pv 5)) po_none)))))
      pss_nil)
      (pss_cons (ps_if (pt_cmpR op_eq (pv 6) pe_int (nomark _))
      (pss_one (ps_ret (pe_join pe_str (pe_op op_cat (pe_op op_cat (pe_slice sl_list (pv 4) po_none (po_some (pv 5))) (pe_revL (pe_slice sl_list (pv 4) (po_some (pv 5)) (po_some (pe_op op_add (pv 5) pe_int))))) (pe_slice sl_list (pv 4) (po_some (pe_op op_add (pv 5) pe_int)) po_none)))))
      pss_nil)
      (pss_cons (ps_if (pt_cmpR op_eq (pv 6) pe_int (nomark _))
      (pss_one (ps_ret (pe_slice sl_str (pv 1) po_none (po_some (pcall (ok_law_draw T) hr (pa_cons (pv 0) (pa_cons (pe_op op_add (pe_callB call_len_str (by rfl) T.n_len PySem.boot_len (pa_cons (pv 1) pa_nil)) pe_int) pa_nil)))))))
      pss_nil)
      (pss_cons (ps_if (pt_cmpR op_eq (pv 6) pe_int (nomark _))
      (pss_one (ps_ret (pe_op op_add_str (pv 1) (pcall (ok_law_of T) hr (pa_cons (pv 0) (pa_cons (pe_lst (pa_cons pe_str (pa_cons pe_str (pa_cons pe_str (pa_cons pe_str (pa_cons pe_str (pa_cons pe_str pa_nil))))))) pa_nil))))))
      pss_nil)
      (pss_cons (ps_if (pt_cmpR op_eq (pv 6) pe_int (nomark _))
      (pss_cons (ps_set (i := 7) sc_law_bent.nd rfl (.inl rfl) (pcall (ok_law_draw T) hr (pa_cons (pv 0) (pa_cons (pe_op op_add (pe_callB call_len_str (by rfl) T.n_len PySem.boot_len (pa_cons (pv 1) pa_nil)) pe_int) pa_nil))))
      (pss_one (ps_ret (pe_op op_add_str (pe_op op_add_str (pe_slice sl_str (pv 1) po_none (po_some (pv 7))) (pcall (ok_law_of T) hr (pa_cons (pv 0) (pa_cons (pe_lst (pa_cons pe_str (pa_cons pe_str (pa_cons pe_str (pa_cons pe_str (pa_cons pe_str (pa_cons pe_str (pa_cons pe_str (pa_cons pe_str (pa_cons pe_str (pa_cons pe_str pa_nil))))))))))) pa_nil)))) (pe_slice sl_str (pv 1) (po_some (pe_op op_add (pv 7) (pcall (ok_law_draw T) hr (pa_cons (pv 0) (pa_cons pe_int pa_nil))))) po_none)))))
      pss_nil)
      (pss_cons (ps_if (pt_cmpR op_eq (pv 6) pe_int (nomark _))
      (pss_cons (ps_set (i := 8) sc_law_bent.nd rfl (.inl rfl) (pe_lst (pa_cons pe_str (pa_cons pe_str (pa_cons pe_str (pa_cons (pe_op op_add_str pe_str (pe_callTy call_str_int (by rfl) T.n_str PyProof.Rows.boot_str (pa_cons (pe_op op_add (pv 2) pe_int) pa_nil))) (pa_cons (pe_op op_add_str pe_str (pe_callTy call_str_int (by rfl) T.n_str PyProof.Rows.boot_str (pa_cons (pe_callB (call_max2 rfl) (by rfl) T.n_max PyProof.Rows.boot_max (pa_cons pe_int (pa_cons (pe_op op_sub (pv 2) pe_int) pa_nil))) pa_nil))) pa_nil)))))))
      (pss_cons (ps_set (i := 8) sc_law_bent.nd rfl (.inl rfl) (pe_op op_cat (pv 8) (pe_lst (pa_cons (pe_op op_add_str pe_str (pe_callTy call_str_int (by rfl) T.n_str PyProof.Rows.boot_str (pa_cons (pv 2) pa_nil))) (pa_cons pe_str (pa_cons pe_str (pa_cons (pe_op op_add_str pe_str (pe_callTy call_str_int (by rfl) T.n_str PyProof.Rows.boot_str (pa_cons (pv 2) pa_nil))) (pa_cons (pe_op op_add_str pe_str (pe_callTy call_str_int (by rfl) T.n_str PyProof.Rows.boot_str (pa_cons (pv 2) pa_nil))) pa_nil))))))))
      (pss_cons (ps_set (i := 8) sc_law_bent.nd rfl (.inl rfl) (pe_op op_cat (pv 8) (pe_lst (pa_cons (pe_op op_add_str pe_str (pe_callTy call_str_int (by rfl) T.n_str PyProof.Rows.boot_str (pa_cons (pv 2) pa_nil))) (pa_cons (pe_op op_add_str pe_str (pe_callTy call_str_int (by rfl) T.n_str PyProof.Rows.boot_str (pa_cons (pv 2) pa_nil))) (pa_cons (pe_op op_add_str (pe_op op_add_str pe_str (pe_callTy call_str_int (by rfl) T.n_str PyProof.Rows.boot_str (pa_cons (pv 2) pa_nil))) pe_str) (pa_cons pe_str (pa_cons (pe_op op_add_str pe_str (pe_op op_mulS pe_str pe_int)) (pa_cons pe_str pa_nil)))))))))
      (pss_one (ps_ret (pe_join pe_str (pe_op op_cat (pe_lst (pa_cons (pcall (ok_law_of T) hr (pa_cons (pv 0) (pa_cons (pv 8) pa_nil))) pa_nil)) (pe_slice sl_list (pv 4) (po_some pe_int) po_none))))))))
      pss_nil)
      (pss_one (ps_ret (pe_join pe_str (pe_op op_cat (pe_op op_cat (pe_slice sl_list (pv 4) po_none (po_some (pv 5))) (pe_lst (pa_cons (pcall (ok_law_line T) hr (pa_cons (pv 0) (pa_cons (pv 2) (pa_cons (pv 3) pa_nil)))) pa_nil))) (pe_slice sl_list (pv 4) (po_some (pv 5)) po_none))))))))))))))), ?_⟩
    have big : 16777216 ≤ sizeLine := by rw [sizeLine_eq]; decide
    have hlen := hz.len
    obtain ⟨z1, z2, z3⟩ := hz.lines
    have hpos := PyProof.Rows.split_pos z (Str.ofString "\n")
    refine ⟨_, rfl, ⟨_, rfl⟩, _, Str.ofString "\n", rfl, rfl, by decide +kernel, by omega, fun L0 hL0 => ?_⟩
    have glue := fun {ls : List Str} {k : Nat} => hz.glue (ls := ls) (k := k)
    have hA0 := hA.new (o := .lst ((Txt.split z (Str.ofString "\n")).map V.str)) hL0
    have x0 := Ex.new (o := .lst ((Txt.split z (Str.ofString "\n")).map V.str)) (hA.nh hL0)
    have h0 := upd_same (H := G) (a := L0) (o := HO.lst ((Txt.split z (Str.ofString "\n")).map V.str))
    generalize upd G L0 _ = G0 at hA0 x0 h0
    generalize upd H L0 _ = H0 at hA0 ⊢
    change 0 < _ at hpos
    generalize Txt.split z (Str.ofString "\n") = zs at h0 z1 z2 z3 glue hpos ⊢
    have hml : (zs.map V.str).length = zs.length := List.length_map ..
    refine ⟨_, rfl, _, rfl, L0, _, rfl, .inl (sq_of (hA0.ex _ _ h0)), b, _, G0, rfl, hA0, by omega, by omega, fun d H1 d0 d1 hA1 => ⟨_, rfl, b, 10, G0, rfl, hA1, by decide, by decide, fun tn H2 t0 t1 hA2 => ⟨_, _, rfl, ?_⟩⟩⟩
    obtain ⟨s, rfl⟩ := Int.eq_ofNat_of_zero_le d0
    rw [hml] at d1
    have hs : s < zs.length := by omega
    have hV0 := hV.mono x0
    clear hL0 hA0 hA1 hA d0 hV
    have fin : ∀ (ls : List Str) (G' H' : Hp), (∀ p ∈ ls, p ∈ zs ∨ Ln 200 p) → wgt ls ≤ 2 * L + 140 → ls.length ≤ N + 2 → Ex G0 G' → At b G' H' → (ls.map (·.length)).sum + ls.length * (Str.ofString "\n").length ≤ 16777216 ∧ Q (.str (Txt.join (Str.ofString "\n") ls)) H' := fun ls G' H' h1 h2 h3 e h4 => by
      rw [wgt_sum]
      exact ⟨by omega, q _ _ (glue h1 h2 h3) (h4.weak (x0.trans e))⟩
    have hcut := wgt_cut zs s
    refine ⟨_, rfl, rfl, _, rfl, ite2 (fun hb => ?_) (fun hb => ?_)⟩
    · have hd := wgt_drop zs s 1
      refine ⟨⟨_, rfl⟩, _, rfl, _, rfl, _, rfl, L0, _, rfl, sq_of (hA2.ex _ _ ((Ex.refl _) _ _ h0)), fun p1 hp1 => ?_⟩
      rw [cut_to, ← List.map_take]
      have hB1 := hA2.new (o := .lst ((zs.take s).map V.str)) hp1
      have y1 := Ex.new (o := .lst ((zs.take s).map V.str)) (hA2.nh hp1)
      have g1 := upd_same (H := G0) (a := p1) (o := HO.lst ((zs.take s).map V.str))
      generalize upd G0 p1 _ = K1 at hB1 y1 g1
      generalize upd H2 p1 _ = J1 at hB1 ⊢
      refine ⟨_, rfl, _, rfl, _, rfl, b, n, D, f, K1, rfl, hB1, n1, n2, hV0.mono ((Ex.refl _).trans (y1)), few, hnm, fun y I2 hy hI2 => ⟨by show 1 ≤ sizeLine; decide, fun p2 hp2 => ?_⟩⟩
      have hyl := hy.len
      have hB2 := hI2.new (o := .lst [V.str y]) hp2
      have y2 := Ex.new (o := .lst [V.str y]) (hI2.nh hp2)
      have g2 := upd_same (H := K1) (a := p2) (o := HO.lst [V.str y])
      generalize upd K1 p2 _ = K2 at hB2 y2 g2
      generalize upd I2 p2 _ = J2 at hB2 ⊢
      have g2 : K2 p2 = some (.lst ([y].map V.str)) := g2
      refine ⟨p1, p2, _, _, rfl, rfl, hB2.ex _ _ ((y2) _ _ g1), hB2.ex _ _ g2, by rw [List.length_map, List.length_map]; simp only [List.length_take, List.length_drop, List.length_append, List.length_reverse, List.length_cons, List.length_nil]; omega, fun p3 hp3 => ?_⟩
      rw [← List.map_append]
      have hB3 := hB2.new (o := .lst ((zs.take s ++ [y]).map V.str)) hp3
      have y3 := Ex.new (o := .lst ((zs.take s ++ [y]).map V.str)) (hB2.nh hp3)
      have g3 := upd_same (H := K2) (a := p3) (o := HO.lst ((zs.take s ++ [y]).map V.str))
      generalize upd K2 p3 _ = K3 at hB3 y3 g3
      generalize upd J2 p3 _ = J3 at hB3 ⊢
      refine ⟨_, rfl, _, rfl, _, _, rfl, rfl, _, rfl, L0, _, rfl, sq_of (hB3.ex _ _ (((Ex.refl _).trans ((y1).trans ((y2).trans (y3)))) _ _ h0)), fun p4 hp4 => ?_⟩
      rw [show (s : Int) + 1 = ((s + 1 : Nat) : Int) from rfl, cut_fr, ← List.map_drop]
      have hB4 := hB3.new (o := .lst ((zs.drop (s + 1)).map V.str)) hp4
      have y4 := Ex.new (o := .lst ((zs.drop (s + 1)).map V.str)) (hB3.nh hp4)
      have g4 := upd_same (H := K3) (a := p4) (o := HO.lst ((zs.drop (s + 1)).map V.str))
      generalize upd K3 p4 _ = K4 at hB4 y4 g4
      generalize upd J3 p4 _ = J4 at hB4 ⊢
      refine ⟨p3, p4, _, _, rfl, rfl, hB4.ex _ _ ((y4) _ _ g3), hB4.ex _ _ g4, by rw [List.length_map, List.length_map]; simp only [List.length_take, List.length_drop, List.length_append, List.length_reverse, List.length_cons, List.length_nil]; omega, fun p5 hp5 => ?_⟩
      rw [← List.map_append]
      have hB5 := hB4.new (o := .lst ((zs.take s ++ [y] ++ zs.drop (s + 1)).map V.str)) hp5
      have y5 := Ex.new (o := .lst ((zs.take s ++ [y] ++ zs.drop (s + 1)).map V.str)) (hB4.nh hp5)
      have g5 := upd_same (H := K4) (a := p5) (o := HO.lst ((zs.take s ++ [y] ++ zs.drop (s + 1)).map V.str))
      generalize upd K4 p5 _ = K5 at hB5 y5 g5
      generalize upd J4 p5 _ = J5 at hB5 ⊢
      refine ⟨_, p5, zs.take s ++ [y] ++ zs.drop (s + 1), rfl, rfl, .inl (sq_of (hB5.ex _ _ g5)), fin _ _ _ ?_ ?_ ?_ ((Ex.refl _).trans ((y1).trans ((y2).trans ((y3).trans ((y4).trans (y5)))))) hB5⟩
      · exact fun p hp => (List.mem_append.mp hp).elim (fun hp => (List.mem_append.mp hp).elim (fun hp => .inl (List.mem_of_mem_take hp)) (fun hp => .inr (List.mem_singleton.mp hp ▸ hy))) (fun hp => .inl (List.mem_of_mem_drop hp))
      · simp only [wgt_append, wgt_reverse, wgt_one]
        omega
      · simp only [List.length_take, List.length_drop, List.length_append, List.length_reverse, List.length_cons, List.length_nil]
        omega
    refine ⟨_, rfl, rfl, _, rfl, ite2 (fun hb => ?_) (fun hb => ?_)⟩
    · have hd := wgt_drop zs s 1
      refine ⟨⟨_, rfl⟩, _, rfl, _, rfl, _, rfl, L0, _, rfl, sq_of (hA2.ex _ _ ((Ex.refl _) _ _ h0)), fun p1 hp1 => ?_⟩
      rw [cut_to, ← List.map_take]
      have hB1 := hA2.new (o := .lst ((zs.take s).map V.str)) hp1
      have y1 := Ex.new (o := .lst ((zs.take s).map V.str)) (hA2.nh hp1)
      have g1 := upd_same (H := G0) (a := p1) (o := HO.lst ((zs.take s).map V.str))
      generalize upd G0 p1 _ = K1 at hB1 y1 g1
      generalize upd H2 p1 _ = J1 at hB1 ⊢
      refine ⟨_, rfl, _, rfl, _, _, rfl, rfl, _, rfl, L0, _, rfl, sq_of (hB1.ex _ _ (((Ex.refl _).trans (y1)) _ _ h0)), fun p2 hp2 => ?_⟩
      rw [show (s : Int) + 1 = ((s + 1 : Nat) : Int) from rfl, cut_fr, ← List.map_drop]
      have hB2 := hB1.new (o := .lst ((zs.drop (s + 1)).map V.str)) hp2
      have y2 := Ex.new (o := .lst ((zs.drop (s + 1)).map V.str)) (hB1.nh hp2)
      have g2 := upd_same (H := K1) (a := p2) (o := HO.lst ((zs.drop (s + 1)).map V.str))
      generalize upd K1 p2 _ = K2 at hB2 y2 g2
      generalize upd J1 p2 _ = J2 at hB2 ⊢
      refine ⟨p1, p2, _, _, rfl, rfl, hB2.ex _ _ ((y2) _ _ g1), hB2.ex _ _ g2, by rw [List.length_map, List.length_map]; simp only [List.length_take, List.length_drop, List.length_append, List.length_reverse, List.length_cons, List.length_nil]; omega, fun p3 hp3 => ?_⟩
      rw [← List.map_append]
      have hB3 := hB2.new (o := .lst ((zs.take s ++ zs.drop (s + 1)).map V.str)) hp3
      have y3 := Ex.new (o := .lst ((zs.take s ++ zs.drop (s + 1)).map V.str)) (hB2.nh hp3)
      have g3 := upd_same (H := K2) (a := p3) (o := HO.lst ((zs.take s ++ zs.drop (s + 1)).map V.str))
      generalize upd K2 p3 _ = K3 at hB3 y3 g3
      generalize upd J2 p3 _ = J3 at hB3 ⊢
      refine ⟨_, p3, zs.take s ++ zs.drop (s + 1), rfl, rfl, .inl (sq_of (hB3.ex _ _ g3)), fin _ _ _ ?_ ?_ ?_ ((Ex.refl _).trans ((y1).trans ((y2).trans (y3)))) hB3⟩
      · exact fun p hp => (List.mem_append.mp hp).elim (fun hp => Or.inl (List.mem_of_mem_take hp)) (fun hp => Or.inl (List.mem_of_mem_drop hp))
      · simp only [wgt_append, wgt_reverse, wgt_one]
        omega
      · simp only [List.length_take, List.length_drop, List.length_append, List.length_reverse, List.length_cons, List.length_nil]
        omega
    refine ⟨_, rfl, rfl, _, rfl, ite2 (fun hb => ?_) (fun hb => ?_)⟩
    · have hd := wgt_cut zs (s + 1)
      refine ⟨⟨_, rfl⟩, _, rfl, _, rfl, _, _, rfl, rfl, _, rfl, L0, _, rfl, sq_of (hA2.ex _ _ ((Ex.refl _) _ _ h0)), fun p1 hp1 => ?_⟩
      rw [show (s : Int) + 1 = ((s + 1 : Nat) : Int) from rfl, cut_to, ← List.map_take]
      have hB1 := hA2.new (o := .lst ((zs.take (s + 1)).map V.str)) hp1
      have y1 := Ex.new (o := .lst ((zs.take (s + 1)).map V.str)) (hA2.nh hp1)
      have g1 := upd_same (H := G0) (a := p1) (o := HO.lst ((zs.take (s + 1)).map V.str))
      generalize upd G0 p1 _ = K1 at hB1 y1 g1
      generalize upd H2 p1 _ = J1 at hB1 ⊢
      refine ⟨_, rfl, _, rfl, _, rfl, L0, _, rfl, sq_of (hB1.ex _ _ (((Ex.refl _).trans (y1)) _ _ h0)), fun p2 hp2 => ?_⟩
      rw [cut_fr, ← List.map_drop]
      have hB2 := hB1.new (o := .lst ((zs.drop s).map V.str)) hp2
      have y2 := Ex.new (o := .lst ((zs.drop s).map V.str)) (hB1.nh hp2)
      have g2 := upd_same (H := K1) (a := p2) (o := HO.lst ((zs.drop s).map V.str))
      generalize upd K1 p2 _ = K2 at hB2 y2 g2
      generalize upd J1 p2 _ = J2 at hB2 ⊢
      refine ⟨p1, p2, _, _, rfl, rfl, hB2.ex _ _ ((y2) _ _ g1), hB2.ex _ _ g2, by rw [List.length_map, List.length_map]; simp only [List.length_take, List.length_drop, List.length_append, List.length_reverse, List.length_cons, List.length_nil]; omega, fun p3 hp3 => ?_⟩
      rw [← List.map_append]
      have hB3 := hB2.new (o := .lst ((zs.take (s + 1) ++ zs.drop s).map V.str)) hp3
      have y3 := Ex.new (o := .lst ((zs.take (s + 1) ++ zs.drop s).map V.str)) (hB2.nh hp3)
      have g3 := upd_same (H := K2) (a := p3) (o := HO.lst ((zs.take (s + 1) ++ zs.drop s).map V.str))
      generalize upd K2 p3 _ = K3 at hB3 y3 g3
      generalize upd J2 p3 _ = J3 at hB3 ⊢
      refine ⟨_, p3, zs.take (s + 1) ++ zs.drop s, rfl, rfl, .inl (sq_of (hB3.ex _ _ g3)), fin _ _ _ ?_ ?_ ?_ ((Ex.refl _).trans ((y1).trans ((y2).trans (y3)))) hB3⟩
      · exact fun p hp => (List.mem_append.mp hp).elim (fun hp => Or.inl (List.mem_of_mem_take hp)) (fun hp => Or.inl (List.mem_of_mem_drop hp))
      · simp only [wgt_append, wgt_reverse, wgt_one]
        omega
      · simp only [List.length_take, List.length_drop, List.length_append, List.length_reverse, List.length_cons, List.length_nil]
        omega
    refine ⟨_, rfl, rfl, _, rfl, ite2 (fun hb => ?_) (fun hb => ?_)⟩
    · have hd := wgt_cut (zs.drop s) 2
      rw [List.drop_drop] at hd
      refine ⟨⟨_, rfl⟩, _, rfl, _, rfl, _, rfl, L0, _, rfl, sq_of (hA2.ex _ _ ((Ex.refl _) _ _ h0)), fun p1 hp1 => ?_⟩
      rw [cut_to, ← List.map_take]
      have hB1 := hA2.new (o := .lst ((zs.take s).map V.str)) hp1
      have y1 := Ex.new (o := .lst ((zs.take s).map V.str)) (hA2.nh hp1)
      have g1 := upd_same (H := G0) (a := p1) (o := HO.lst ((zs.take s).map V.str))
      generalize upd G0 p1 _ = K1 at hB1 y1 g1
      generalize upd H2 p1 _ = J1 at hB1 ⊢
      refine ⟨_, rfl, _, rfl, _, rfl, _, rfl, _, _, rfl, rfl, _, rfl, L0, _, rfl, sq_of (hB1.ex _ _ (((Ex.refl _).trans (y1)) _ _ h0)), fun p2 hp2 => ?_⟩
      rw [show (s : Int) + 2 = ((s + 2 : Nat) : Int) from rfl, cut_pair (by rw [hml]; exact hs), ← List.map_drop, ← List.map_take]
      have hB2 := hB1.new (o := .lst (((zs.drop s).take 2).map V.str)) hp2
      have y2 := Ex.new (o := .lst (((zs.drop s).take 2).map V.str)) (hB1.nh hp2)
      have g2 := upd_same (H := K1) (a := p2) (o := HO.lst (((zs.drop s).take 2).map V.str))
      generalize upd K1 p2 _ = K2 at hB2 y2 g2
      generalize upd J1 p2 _ = J2 at hB2 ⊢
      refine ⟨p2, _, rfl, sq_of (hB2.ex _ _ g2), fun p3 hp3 => ?_⟩
      rw [← List.map_reverse]
      have hB3 := hB2.new (o := .lst (((zs.drop s).take 2).reverse.map V.str)) hp3
      have y3 := Ex.new (o := .lst (((zs.drop s).take 2).reverse.map V.str)) (hB2.nh hp3)
      have g3 := upd_same (H := K2) (a := p3) (o := HO.lst (((zs.drop s).take 2).reverse.map V.str))
      generalize upd K2 p3 _ = K3 at hB3 y3 g3
      generalize upd J2 p3 _ = J3 at hB3 ⊢
      refine ⟨p1, p3, _, _, rfl, rfl, hB3.ex _ _ (((y2).trans (y3)) _ _ g1), hB3.ex _ _ g3, by rw [List.length_map, List.length_map]; simp only [List.length_take, List.length_drop, List.length_append, List.length_reverse, List.length_cons, List.length_nil]; omega, fun p4 hp4 => ?_⟩
      rw [← List.map_append]
      have hB4 := hB3.new (o := .lst ((zs.take s ++ ((zs.drop s).take 2).reverse).map V.str)) hp4
      have y4 := Ex.new (o := .lst ((zs.take s ++ ((zs.drop s).take 2).reverse).map V.str)) (hB3.nh hp4)
      have g4 := upd_same (H := K3) (a := p4) (o := HO.lst ((zs.take s ++ ((zs.drop s).take 2).reverse).map V.str))
      generalize upd K3 p4 _ = K4 at hB4 y4 g4
      generalize upd J3 p4 _ = J4 at hB4 ⊢
      refine ⟨_, rfl, _, rfl, _, _, rfl, rfl, _, rfl, L0, _, rfl, sq_of (hB4.ex _ _ (((Ex.refl _).trans ((y1).trans ((y2).trans ((y3).trans (y4))))) _ _ h0)), fun p5 hp5 => ?_⟩
      rw [show (s : Int) + 2 = ((s + 2 : Nat) : Int) from rfl, cut_fr, ← List.map_drop]
      have hB5 := hB4.new (o := .lst ((zs.drop (s + 2)).map V.str)) hp5
      have y5 := Ex.new (o := .lst ((zs.drop (s + 2)).map V.str)) (hB4.nh hp5)
      have g5 := upd_same (H := K4) (a := p5) (o := HO.lst ((zs.drop (s + 2)).map V.str))
      generalize upd K4 p5 _ = K5 at hB5 y5 g5
      generalize upd J4 p5 _ = J5 at hB5 ⊢
      refine ⟨p4, p5, _, _, rfl, rfl, hB5.ex _ _ ((y5) _ _ g4), hB5.ex _ _ g5, by rw [List.length_map, List.length_map]; simp only [List.length_take, List.length_drop, List.length_append, List.length_reverse, List.length_cons, List.length_nil]; omega, fun p6 hp6 => ?_⟩
      rw [← List.map_append]
      have hB6 := hB5.new (o := .lst ((zs.take s ++ ((zs.drop s).take 2).reverse ++ zs.drop (s + 2)).map V.str)) hp6
      have y6 := Ex.new (o := .lst ((zs.take s ++ ((zs.drop s).take 2).reverse ++ zs.drop (s + 2)).map V.str)) (hB5.nh hp6)
      have g6 := upd_same (H := K5) (a := p6) (o := HO.lst ((zs.take s ++ ((zs.drop s).take 2).reverse ++ zs.drop (s + 2)).map V.str))
      generalize upd K5 p6 _ = K6 at hB6 y6 g6
      generalize upd J5 p6 _ = J6 at hB6 ⊢
      refine ⟨_, p6, zs.take s ++ ((zs.drop s).take 2).reverse ++ zs.drop (s + 2), rfl, rfl, .inl (sq_of (hB6.ex _ _ g6)), fin _ _ _ ?_ ?_ ?_ ((Ex.refl _).trans ((y1).trans ((y2).trans ((y3).trans ((y4).trans ((y5).trans (y6))))))) hB6⟩
      · exact fun p hp => (List.mem_append.mp hp).elim (fun hp => (List.mem_append.mp hp).elim (fun hp => Or.inl (List.mem_of_mem_take hp)) (fun hp => Or.inl (List.mem_of_mem_drop (List.mem_of_mem_take (List.mem_reverse.mp hp))))) (fun hp => Or.inl (List.mem_of_mem_drop hp))
      · simp only [wgt_append, wgt_reverse, wgt_one]
        omega
      · simp only [List.length_take, List.length_drop, List.length_append, List.length_reverse, List.length_cons, List.length_nil]
        omega
    refine ⟨_, rfl, rfl, _, rfl, ite2 (fun hb => ?_) (fun hb => ?_)⟩
    · refine ⟨_, rfl, _, rfl, _, rfl, _, rfl, by omega, _, _, rfl, rfl, b, _, G0, rfl, hA2, by omega, by omega, fun d H3 e0 e1 hA3 => ⟨_, rfl, _, rfl, by omega, ?_⟩⟩
      obtain ⟨k, rfl⟩ := Int.eq_ofNat_of_zero_le e0
      rw [cutS_to]
      exact q _ _ ((hz.take k).mono (by omega) (by omega)) (hA3.weak x0)
    refine ⟨_, rfl, rfl, _, rfl, ite2 (fun hb => ?_) (fun hb => ?_)⟩
    · refine ⟨_, rfl, _, rfl, by show 6 ≤ sizeLine; decide, fun p hp => ⟨b, .ref p, _, _, rfl, hA2.new hp, .inl ⟨p, rfl, sq_of upd_same⟩, by decide, by decide, fun v H3 hv hA3 => ?_⟩⟩
      have hall : ∀ y ∈ [Str.ofString "\n", Str.ofString " ", Str.ofString "x", Str.ofString "zzzzzz 1 1\n", Str.ofString "\n\n", Str.ofString "cases 1\n"], Bt 20 2 y := by
        repeat (refine fa_cons ⟨by decide +kernel, by decide +kernel, by decide +kernel⟩ ?_)
        exact fa_nil
      obtain ⟨y, hy, rfl⟩ := List.mem_map.mp (show v ∈ [Str.ofString "\n", Str.ofString " ", Str.ofString "x", Str.ofString "zzzzzz 1 1\n", Str.ofString "\n\n", Str.ofString "cases 1\n"].map V.str from hv)
      have hy := hall y hy
      have hyl := hy.len
      exact ⟨_, _, rfl, rfl, by omega, q _ _ ((hz.app hy).mono (by omega) (by omega)) (hA3.weak (x0.trans (Ex.new (hA2.nh hp))))⟩
    refine ⟨_, rfl, rfl, _, rfl, ite2 (fun hb => ?_) (fun hb => ?_)⟩
    · refine ⟨_, rfl, _, rfl, _, rfl, by omega, _, _, rfl, rfl, b, _, G0, rfl, hA2, by omega, by omega, fun d H3 e0 e1 hA3 => ?_⟩
      obtain ⟨k, rfl⟩ := Int.eq_ofNat_of_zero_le e0
      refine ⟨_, rfl, _, rfl, _, rfl, _, rfl, by omega, ?_⟩
      rw [cutS_to]
      refine ⟨_, rfl, by show 10 ≤ sizeLine; decide, fun p hp => ⟨b, .ref p, _, _, rfl, hA3.new hp, .inl ⟨p, rfl, sq_of upd_same⟩, by decide, by decide, fun v H4 hv hA4 => ?_⟩⟩
      have hall : ∀ y ∈ [Str.ofString " ", Str.ofString "0", Str.ofString "1", Str.ofString "2", Str.ofString "a", Str.ofString "z", Str.ofString "\n", Str.ofString "A", Str.ofString "-", Str.ofString ""], Bt 1 1 y := by
        repeat (refine fa_cons ⟨by decide +kernel, by decide +kernel, by decide +kernel⟩ ?_)
        exact fa_nil
      obtain ⟨y, hy, rfl⟩ := List.mem_map.mp (show v ∈ [Str.ofString " ", Str.ofString "0", Str.ofString "1", Str.ofString "2", Str.ofString "a", Str.ofString "z", Str.ofString "\n", Str.ofString "A", Str.ofString "-", Str.ofString ""].map V.str from hv)
      have hy := hall y hy
      have hyl := hy.len
      have htl := (hz.take k).len
      have hA4 := hA4.weak (x0.trans (Ex.new (hA3.nh hp)))
      refine ⟨_, _, rfl, rfl, by omega, _, rfl, _, rfl, _, rfl, b, 2, G, rfl, hA4, by decide, by decide, fun d2 H5 f0 f1 hA5 => ?_⟩
      obtain ⟨m, rfl⟩ := Int.eq_ofNat_of_zero_le f0
      refine ⟨_, _, rfl, rfl, _, rfl, _, rfl, by omega, ?_⟩
      have hm := hz.mid hy k m
      rw [show (k : Int) + (m : Int) = ((k + m : Nat) : Int) from rfl, cutS_from]
      refine ⟨_, _, rfl, rfl, ?_, q _ _ (hm.mono (by omega) (by omega)) hA5⟩
      have := hm.len
      rw [Str.length_append] at this
      omega
    refine ⟨_, rfl, rfl, _, rfl, ite2 (fun hb => ?_) (fun hb => ?_)⟩
    · have c0 : Ln 7 (Str.ofString "cases 0") := ⟨by decide +kernel, by decide +kernel⟩
      have k0 := c0.len
      have c1 : Ln 10 (Str.ofString "cases 2401") := ⟨by decide +kernel, by decide +kernel⟩
      have k1 := c1.len
      have c2 : Ln 10 (Str.ofString "cases 2400") := ⟨by decide +kernel, by decide +kernel⟩
      have k2 := c2.len
      have c3 : Ln 6 (Str.ofString "cases ") := ⟨by decide +kernel, by decide +kernel⟩
      have k3 := c3.len
      have c4 : Ln 5 (Str.ofString "cases") := ⟨by decide +kernel, by decide +kernel⟩
      have k4 := c4.len
      have c5 : Ln 5 (Str.ofString "case ") := ⟨by decide +kernel, by decide +kernel⟩
      have k5 := c5.len
      have c6 : Ln 6 (Str.ofString "Cases ") := ⟨by decide +kernel, by decide +kernel⟩
      have k6 := c6.len
      have c7 : Ln 7 (Str.ofString "cases +") := ⟨by decide +kernel, by decide +kernel⟩
      have k7 := c7.len
      have c8 : Ln 7 (Str.ofString "cases  ") := ⟨by decide +kernel, by decide +kernel⟩
      have k8 := c8.len
      have c9 : Ln 1 (Str.ofString " ") := ⟨by decide +kernel, by decide +kernel⟩
      have k9 := c9.len
      have c10 : Ln 0 (Str.ofString "") := ⟨by decide +kernel, by decide +kernel⟩
      have k10 := c10.len
      have c11 : Ln 7 (Str.ofString "cases 1") := ⟨by decide +kernel, by decide +kernel⟩
      have k11 := c11.len
      have c12 : Ln 7 (Str.ofString "cases x") := ⟨by decide +kernel, by decide +kernel⟩
      have k12 := c12.len
      have cn : Ln 4 (Str.ofString (toString (n : Int))) := Ln.num (n := n) (by omega)
      have cn1 : Ln 4 (Str.ofString (toString ((n : Int) + 1))) := Ln.num (n := n + 1) (by omega)
      obtain ⟨m, hm, hm2⟩ : ∃ m : Nat, (if (n : Int) - 1 > 1 then (n : Int) - 1 else 1) = (m : Int) ∧ m ≤ 12 := by
        split
        · exact ⟨n - 1, by omega, by omega⟩
        · exact ⟨1, rfl, by omega⟩
      have cz : Ln 40 ⟨(List.replicate 40 48).toArray⟩ := ⟨by decide +kernel, by decide +kernel⟩
      have kz := cz.len
      have cm : Ln 4 (Str.ofString (toString (m : Int))) := Ln.num (n := m) (by omega)
      have kn := cn.len
      have kn1 := cn1.len
      have km := cm.len
      refine ⟨_, rfl, _, _, rfl, rfl, _, rfl, natS_log (n := n + 1) (by omega), _, _, rfl, rfl, by omega, ?_⟩
      refine ⟨_, rfl, _, _, rfl, rfl, _, _, rfl, ?_⟩
      rw [hm]
      refine ⟨_, rfl, natS_log (n := m) (by omega), _, _, rfl, rfl, by omega, by show 5 ≤ sizeLine; decide, fun F1 hF1 => ?_⟩
      generalize hH1 : upd H2 F1 _ = H14
      obtain ⟨ys1, G14, hl1, hva, hz1, hA14, x14, hF14⟩ := lst_at hA2 hF1 hH1 (zs := [_, _, _, _, _]) rfl (by (repeat (refine fa_cons (by (apply Ln.mono; (repeat (first | assumption | apply Ln.app)); decide)) ?_)); exact fa_nil)
      have hl1 : ys1.length = 5 := hl1
      clear hH1 hva
      repeat (first | refine ⟨⟨_, rfl⟩, _, rfl, rfl, by omega, ?_⟩ | refine ⟨_, rfl, natS_log (by omega), ?_⟩ | refine ⟨_, rfl, ?_⟩ | refine ⟨_, _, rfl, rfl, by first | omega | (simp only [Str.length_append]; omega), ?_⟩ | refine ⟨by omega, ?_⟩ | refine ⟨by rw [show (Str.ofString "01").length = 2 from rfl]; omega, ?_⟩)
      refine ⟨by show 5 ≤ sizeLine; decide, fun A2 hA2n => ?_⟩
      generalize hH2 : upd H14 A2 _ = H2a
      obtain ⟨ya2, G2a, hl2a, hva, hz2a, hA2a, x2a, hF2a⟩ := lst_at hA14 hA2n hH2 (zs := [_, _, _, _, _]) rfl (by (repeat (refine fa_cons (by (apply Ln.mono; (repeat (first | assumption | apply Ln.app)); decide)) ?_)); exact fa_nil)
      have hl2a : ya2.length = 5 := hl2a
      clear hH2 hva
      refine ⟨F1, A2, _, _, rfl, rfl, hA2a.ex _ _ (x2a _ _ hF14), hA2a.ex _ _ hF2a, by rw [List.length_map, List.length_map]; omega, fun F2 hF2n => ?_⟩
      obtain ⟨ys2, G2b, hl2b, hve, hz2b, hA2b, x2b, hF2b⟩ := lst_at hA2a hF2n rfl (zs := ys1 ++ ya2) List.map_append.symm (fun z hz => (List.mem_append.mp hz).elim (hz1 z) (hz2a z))
      rw [hve] at hA2b ⊢
      rw [List.length_append] at hl2b
      clear hve
      generalize upd H2a F2 _ = H2b at hA2b ⊢
      repeat (first | refine ⟨48, 40, rfl, rfl, by decide, ?_⟩ | refine ⟨⟨_, rfl⟩, _, rfl, rfl, by omega, ?_⟩ | refine ⟨_, rfl, natS_log (by omega), ?_⟩ | refine ⟨_, rfl, ?_⟩ | refine ⟨_, _, rfl, rfl, by first | omega | (simp only [Str.length_append]; omega), ?_⟩ | refine ⟨by omega, ?_⟩ | refine ⟨by rw [show (Str.ofString "01").length = 2 from rfl]; omega, ?_⟩)
      refine ⟨by show 6 ≤ sizeLine; decide, fun A3 hA3n => ?_⟩
      generalize hH3 : upd H2b A3 _ = H3a
      obtain ⟨ya3, G3a, hl3a, hva, hz3a, hA3a, x3a, hF3a⟩ := lst_at hA2b hA3n hH3 (zs := [_, _, _, _, _, _]) rfl (by (repeat (refine fa_cons (by (apply Ln.mono; (repeat (first | assumption | apply Ln.app)); decide)) ?_)); exact fa_nil)
      have hl3a : ya3.length = 6 := hl3a
      clear hH3 hva
      refine ⟨F2, A3, _, _, rfl, rfl, hA3a.ex _ _ (x3a _ _ hF2b), hA3a.ex _ _ hF3a, by rw [List.length_map, List.length_map]; omega, fun F3 hF3n => ?_⟩
      obtain ⟨ys3, G3b, hl3b, hve, hz3b, hA3b, x3b, hF3b⟩ := lst_at hA3a hF3n rfl (zs := ys2 ++ ya3) List.map_append.symm (fun z hz => (List.mem_append.mp hz).elim (hz2b z) (hz3a z))
      rw [hve] at hA3b ⊢
      rw [List.length_append] at hl3b
      clear hve
      generalize upd H3a F3 _ = H3b at hA3b ⊢
      refine ⟨⟨_, rfl⟩, _, rfl, _, rfl, b, .ref F3, G3b, ys3.map V.str, rfl, hA3b, .inl ⟨F3, rfl, sq_of hF3b⟩, by rw [List.length_map]; omega, by rw [List.length_map]; omega, fun v I1 hv hI1 => ⟨by show 1 ≤ sizeLine; decide, fun p1 hp1 => ?_⟩⟩
      obtain ⟨y, hy, rfl⟩ := List.mem_map.mp hv
      have hy := hz3b y hy
      have hyl := hy.len
      have hd := wgt_cut zs 1
      have hB1 := hI1.new (o := .lst [V.str y]) hp1
      have y1 := Ex.new (o := .lst [V.str y]) (hI1.nh hp1)
      have g1 := upd_same (H := G3b) (a := p1) (o := HO.lst [V.str y])
      generalize upd G3b p1 _ = K1 at hB1 y1 g1
      generalize upd I1 p1 _ = J1 at hB1 ⊢
      have g1 : K1 p1 = some (.lst ([y].map V.str)) := g1
      refine ⟨_, rfl, _, rfl, L0, _, rfl, sq_of (hB1.ex _ _ ((((x14.trans (x2a.trans (x2b.trans (x3a.trans x3b))))).trans (y1)) _ _ h0)), fun p2 hp2 => ?_⟩
      rw [show (1 : Int) = ((1 : Nat) : Int) from rfl, cut_fr, ← List.map_drop]
      have hB2 := hB1.new (o := .lst ((zs.drop 1).map V.str)) hp2
      have y2 := Ex.new (o := .lst ((zs.drop 1).map V.str)) (hB1.nh hp2)
      have g2 := upd_same (H := K1) (a := p2) (o := HO.lst ((zs.drop 1).map V.str))
      generalize upd K1 p2 _ = K2 at hB2 y2 g2
      generalize upd J1 p2 _ = J2 at hB2 ⊢
      refine ⟨p1, p2, _, _, rfl, rfl, hB2.ex _ _ ((y2) _ _ g1), hB2.ex _ _ g2, by rw [List.length_map, List.length_map]; simp only [List.length_take, List.length_drop, List.length_append, List.length_reverse, List.length_cons, List.length_nil]; omega, fun p3 hp3 => ?_⟩
      rw [← List.map_append]
      have hB3 := hB2.new (o := .lst (([y] ++ zs.drop 1).map V.str)) hp3
      have y3 := Ex.new (o := .lst (([y] ++ zs.drop 1).map V.str)) (hB2.nh hp3)
      have g3 := upd_same (H := K2) (a := p3) (o := HO.lst (([y] ++ zs.drop 1).map V.str))
      generalize upd K2 p3 _ = K3 at hB3 y3 g3
      generalize upd J2 p3 _ = J3 at hB3 ⊢
      refine ⟨_, p3, [y] ++ zs.drop 1, rfl, rfl, .inl (sq_of (hB3.ex _ _ g3)), fin _ _ _ ?_ ?_ ?_ (((x14.trans (x2a.trans (x2b.trans (x3a.trans x3b))))).trans ((y1).trans ((y2).trans (y3)))) hB3⟩
      · exact fun p hp => (List.mem_append.mp hp).elim (fun hp => Or.inr (List.mem_singleton.mp hp ▸ hy)) (fun hp => Or.inl (List.mem_of_mem_drop hp))
      · simp only [wgt_append, wgt_reverse, wgt_one]
        omega
      · simp only [List.length_take, List.length_drop, List.length_append, List.length_reverse, List.length_cons, List.length_nil]
        omega
    refine ⟨⟨_, rfl⟩, _, rfl, _, rfl, _, rfl, L0, _, rfl, sq_of (hA2.ex _ _ ((Ex.refl _) _ _ h0)), fun p1 hp1 => ?_⟩
    rw [cut_to, ← List.map_take]
    have hB1 := hA2.new (o := .lst ((zs.take s).map V.str)) hp1
    have y1 := Ex.new (o := .lst ((zs.take s).map V.str)) (hA2.nh hp1)
    have g1 := upd_same (H := G0) (a := p1) (o := HO.lst ((zs.take s).map V.str))
    generalize upd G0 p1 _ = K1 at hB1 y1 g1
    generalize upd H2 p1 _ = J1 at hB1 ⊢
    refine ⟨_, rfl, _, rfl, _, rfl, b, n, D, f, K1, rfl, hB1, n1, n2, hV0.mono ((Ex.refl _).trans (y1)), few, hnm, fun y I2 hy hI2 => ⟨by show 1 ≤ sizeLine; decide, fun p2 hp2 => ?_⟩⟩
    have hyl := hy.len
    have hB2 := hI2.new (o := .lst [V.str y]) hp2
    have y2 := Ex.new (o := .lst [V.str y]) (hI2.nh hp2)
    have g2 := upd_same (H := K1) (a := p2) (o := HO.lst [V.str y])
    generalize upd K1 p2 _ = K2 at hB2 y2 g2
    generalize upd I2 p2 _ = J2 at hB2 ⊢
    have g2 : K2 p2 = some (.lst ([y].map V.str)) := g2
    refine ⟨p1, p2, _, _, rfl, rfl, hB2.ex _ _ ((y2) _ _ g1), hB2.ex _ _ g2, by rw [List.length_map, List.length_map]; simp only [List.length_take, List.length_drop, List.length_append, List.length_reverse, List.length_cons, List.length_nil]; omega, fun p3 hp3 => ?_⟩
    rw [← List.map_append]
    have hB3 := hB2.new (o := .lst ((zs.take s ++ [y]).map V.str)) hp3
    have y3 := Ex.new (o := .lst ((zs.take s ++ [y]).map V.str)) (hB2.nh hp3)
    have g3 := upd_same (H := K2) (a := p3) (o := HO.lst ((zs.take s ++ [y]).map V.str))
    generalize upd K2 p3 _ = K3 at hB3 y3 g3
    generalize upd J2 p3 _ = J3 at hB3 ⊢
    refine ⟨_, rfl, _, rfl, _, rfl, L0, _, rfl, sq_of (hB3.ex _ _ (((Ex.refl _).trans ((y1).trans ((y2).trans (y3)))) _ _ h0)), fun p4 hp4 => ?_⟩
    rw [cut_fr, ← List.map_drop]
    have hB4 := hB3.new (o := .lst ((zs.drop s).map V.str)) hp4
    have y4 := Ex.new (o := .lst ((zs.drop s).map V.str)) (hB3.nh hp4)
    have g4 := upd_same (H := K3) (a := p4) (o := HO.lst ((zs.drop s).map V.str))
    generalize upd K3 p4 _ = K4 at hB4 y4 g4
    generalize upd J3 p4 _ = J4 at hB4 ⊢
    refine ⟨p3, p4, _, _, rfl, rfl, hB4.ex _ _ ((y4) _ _ g3), hB4.ex _ _ g4, by rw [List.length_map, List.length_map]; simp only [List.length_take, List.length_drop, List.length_append, List.length_reverse, List.length_cons, List.length_nil]; omega, fun p5 hp5 => ?_⟩
    rw [← List.map_append]
    have hB5 := hB4.new (o := .lst ((zs.take s ++ [y] ++ zs.drop s).map V.str)) hp5
    have y5 := Ex.new (o := .lst ((zs.take s ++ [y] ++ zs.drop s).map V.str)) (hB4.nh hp5)
    have g5 := upd_same (H := K4) (a := p5) (o := HO.lst ((zs.take s ++ [y] ++ zs.drop s).map V.str))
    generalize upd K4 p5 _ = K5 at hB5 y5 g5
    generalize upd J4 p5 _ = J5 at hB5 ⊢
    refine ⟨_, p5, zs.take s ++ [y] ++ zs.drop s, rfl, rfl, .inl (sq_of (hB5.ex _ _ g5)), fin _ _ _ ?_ ?_ ?_ ((Ex.refl _).trans ((y1).trans ((y2).trans ((y3).trans ((y4).trans (y5)))))) hB5⟩
    · exact fun p hp => (List.mem_append.mp hp).elim (fun hp => (List.mem_append.mp hp).elim (fun hp => .inl (List.mem_of_mem_take hp)) (fun hp => .inr (List.mem_singleton.mp hp ▸ hy))) (fun hp => .inl (List.mem_of_mem_drop hp))
    · simp only [wgt_append, wgt_reverse, wgt_one]
      omega
    · simp only [List.length_take, List.length_drop, List.length_append, List.length_reverse, List.length_cons, List.length_nil]
      omega
end
end Eyes

set_option Elab.async false
set_option linter.all false
set_option maxRecDepth 100000
set_option maxHeartbeats 4000000
/-! Two circles in a world; all pairs of cases. -/
namespace Eyes
open PySem PySem.Spec PyProof.Rows L2 Evl TL
structure Sml (c : Ci) : Prop where
  nr : c.norm
  sz : c.size ≤ 30
  dp : c.depth ≤ 10
theorem Sml.fine {c : Ci} (h : Sml c) : c.fine := ⟨norm_of h.nr, by have := h.sz; omega⟩
theorem Sml.two {c d : Ci} (k : Bool) (h : Sml c) (g : Sml d) : (∀ e ∈ [c, d], e.norm) ∧ Good k [c, d] ∧ (mkC k [c, d]).norm ∧ (mkC k [c, d]).fine ∧ (mkC k [c, d]).depth ≤ 11 := by
  have hn : ∀ e ∈ [c, d], e.norm := fun e he => by
    rcases List.mem_cons.mp he with rfl | he
    · exact h.nr
    · rw [List.mem_singleton.mp he]
      exact g.nr
  have hd : ∀ e ∈ [c, d], e.depth ≤ 10 := fun e he => by
    rcases List.mem_cons.mp he with rfl | he
    · exact h.dp
    · rw [List.mem_singleton.mp he]
      exact g.dp
  have hs : (mkC k [c, d]).size ≤ c.size + (d.size + 0) := mk_sizeW hn
  have hdp := mk_depthW (k := k) hn hd
  have hne : [c, d] ≠ [] := fun z => nomatch z
  have hN := mkC_norm (k := k) hne hn
  have h1 := h.sz
  have h2 := g.sz
  refine ⟨hn, ⟨hne, fun e he => ?_, by show 2 ≤ 1400; decide, by omega, by omega⟩, hN, ⟨norm_of hN, by omega⟩, hdp⟩
  rcases List.mem_cons.mp he with rfl | he
  · exact h.fine
  · rw [List.mem_singleton.mp he]
    exact g.fine
structure WV (CW : Addr) (H : Hp) (v : V) (l : Addr) (n : Nat) (f : Vw) (ys : List Str) : Prop where
  w : WorldAt CW H v n (seenV n f ys)
  vw : VwAt H l n f
  ok : VwOk n f ys
theorem WV.mono {CW : Addr} {H H' : Hp} {v : V} {l : Addr} {n : Nat} {f : Vw} {ys : List Str} (e : Ex H H') (h : WV CW H v l n f ys) : WV CW H' v l n f ys := ⟨h.w.mono e, h.vw.mono e, h.ok⟩
theorem WV.view {CW : Addr} {H : Hp} {v : V} {l : Addr} {n : Nat} {f : Vw} {ys : List Str} (h : WV CW H v l n f ys) (c : Ci) : viewC n (seenV n f ys) c = viewC n f c := viewC_congr (seen_same h.ok.pm) c
theorem WV.isP {CW : Addr} {H : Hp} {v : V} {l : Addr} {n : Nat} {f : Vw} {ys : List Str} (h : WV CW H v l n f ys) (c : Ci) : IsP n (viewC n f c) := viewC_isP h.ok.isP c
def spPairsW (CC CW : Addr) : Sp := fun vs H Q _ => ∃ (v x : V) (l r : Addr) (n : Nat) (f : Vw) (ys : List Str) (c : Ci), vs = [v, .int (n : Int), x, .ref r] ∧ WV CW H v l n f ys ∧ CiAt CC H x c ∧ Sml c ∧ H r = some (.tup (nvs (viewC n f c))) ∧ ∀ H', Ex H H' → Q (.bl true) H'
def spPartsSo (CW : Addr) : Sp := fun vs H Q _ => ∃ (v x y : V) (l : Addr) (n : Nat) (f : Vw) (ys : List Str) (c d : Ci), vs = [v, .int (n : Int), .ref l, x, y] ∧ WV CW H v l n f ys ∧ Rep H x c.data ∧ Rep H y d.data ∧ Sml c ∧ Sml d ∧ ∀ H', Ex H H' → Q (.bl true) H'
section
variable {P : Program} {w : World} {K : PySem.W.Frag} {mg : Str → Option Value} {base : Heap} {AA : Adr}
end
end Eyes

set_option Elab.async false
set_option linter.all false
set_option maxRecDepth 100000
set_option maxHeartbeats 4000000
/-! What is no list is kept. -/
namespace Eyes
open PySem PySem.Spec PyProof.Rows L2 Evl TL
def keepN (G G' : Hp) : Prop := ∀ a o, G a = some o → (∀ xs, o ≠ .lst xs) → G' a = some o
theorem keepN.ex {G G' : Hp} (e : Ex G G') : keepN G G' := fun a o h _ => e a o h
theorem keepN.trans {G G' G2 : Hp} (e : keepN G G') (e2 : keepN G' G2) : keepN G G2 := fun a o h n => e2 a o (e a o h n) n
theorem keepN.put {G : Hp} {D : Addr} {xs : List V} {o : HO} (h : G D = some (.lst xs)) : keepN G (upd G D o) := fun a u g n => by
  rw [upd_ne fun z => by rw [z, h] at g; exact n xs (Option.some.inj g).symm]
  exact g
theorem VwAt.keepN {G G' : Hp} {D : Addr} {n : Nat} {f : Vw} (e : keepN G G') (h : VwAt G D n f) : VwAt G' D n f := by
  obtain ⟨W, h1, h2, h3⟩ := h
  exact ⟨W, e _ _ h1 (fun _ => nofun), h2, fun x hx => ⟨e _ _ (h3 x hx).1 (fun _ => nofun), (h3 x hx).2⟩⟩
theorem WorldAt.keepN {C : Addr} {G G' : Hp} {v : V} {n : Nat} {f : Vw} (e : keepN G G') (h : WorldAt C G v n f) : WorldAt C G' v n f := by
  obtain ⟨p, dx, D, h1, h2, h3⟩ := h
  exact ⟨p, dx, D, h1, e _ _ h2 (fun _ => nofun), h3.keepN e⟩
theorem WV.keepN {C : Addr} {G G' : Hp} {v : V} {l : Addr} {n : Nat} {f : Vw} {ys : List Str} (e : keepN G G') (h : WV C G v l n f ys) : WV C G' v l n f ys := ⟨h.w.keepN e, h.vw.keepN e, h.ok⟩
end Eyes

set_option Elab.async false
set_option linter.all false
set_option maxRecDepth 100000
set_option maxHeartbeats 8000000
/-! The law: texts of worlds read back. -/
namespace Eyes
open PySem PySem.Spec PyProof.Rows L2 Evl TL LamX
theorem okT {n : Nat} (n1 : 1 ≤ n) (n9 : n ≤ 2400) {ms : List Knot} {zs : List Str} (hml : ms.length ≤ 24) (hms : ∀ k ∈ ms, Eyes.nm k.1 ∧ inK n k) (hp : zs.Perm ((knotsV n ms).map (·.1))) (hs : sortedS zs = true) : VwOk n (knotsV n ms) zs := ⟨n1, by omega, Nat.lt_of_le_of_lt (knotsV_len n ms) (by omega), knotsV_nodup n ms, fun e he => by
  obtain ⟨k, hk, hk2⟩ := knotsV_names (List.mem_map.mpr ⟨e, he, rfl⟩)
  have := (hms k hk).1.2.1
  rw [hk2] at this
  omega, fun t => by
  have := isP_mrgs (isP_alone n) (prsK_in (t := t) fun k hk => (hms k hk).2)
  rw [← knotsV_gP] at this
  exact this, hp, hs⟩
theorem Tabs.lstT {T : List (Addr × Str)} {G : Hp} {p : Addr} {k1 k2 : List V} (hp : G p = some (.lst k1)) (h : Tabs T G) : Tabs T (upd G p (.lst k2)) := by
  have other : ∀ {a : Addr} {o : HO}, G a = some o → (∀ zs, o ≠ .lst zs) → upd G p (.lst k2) a = some o := fun {a o} e n => by
    rw [upd_ne]
    · exact e
    · rintro rfl
      rw [hp] at e
      cases e
      exact n _ rfl
  intro q hq
  obtain ⟨ps, h1, h2, h3⟩ := h q hq
  refine ⟨ps, other h1 (fun _ => nofun), h2, fun pos cv hcv => ?_⟩
  obtain ⟨c', e1, e2⟩ := h3 pos cv hcv
  exact ⟨c', e1, other e2 (fun _ => nofun)⟩
theorem size12 {kx : V} (h : kx ∈ [V.int 4, .int 3, .int 5, .int 2, .int 6, .int 1, .int 12]) : ∃ n : Nat, kx = .int (n : Int) ∧ 1 ≤ n ∧ n ≤ 12 := by
  simp only [List.mem_cons, List.not_mem_nil, or_false] at h
  rcases h with rfl | rfl | rfl | rfl | rfl | rfl | rfl
  · exact ⟨4, rfl, by decide, by decide⟩
  · exact ⟨3, rfl, by decide, by decide⟩
  · exact ⟨5, rfl, by decide, by decide⟩
  · exact ⟨2, rfl, by decide, by decide⟩
  · exact ⟨6, rfl, by decide, by decide⟩
  · exact ⟨1, rfl, by decide, by decide⟩
  · exact ⟨12, rfl, by decide, by decide⟩
theorem bends3 {kx : V} (h : kx ∈ [V.int 1, .int 1, .int 2, .int 3]) : ∃ n : Nat, kx = .int (n : Int) ∧ n ≤ 3 := by
  simp only [List.mem_cons, List.not_mem_nil, or_false] at h
  rcases h with rfl | rfl | rfl | rfl
  · exact ⟨1, rfl, by decide⟩
  · exact ⟨1, rfl, by decide⟩
  · exact ⟨2, rfl, by decide⟩
  · exact ⟨3, rfl, by decide⟩
def LkB : Nat → Nat
  | 0 => 352
  | i + 1 => 2 * LkB i + 140
theorem LkB_lo : ∀ i, 100 ≤ LkB i
  | 0 => by decide
  | i + 1 => by
    have := LkB_lo i
    show 100 ≤ 2 * LkB i + 140
    omega
theorem LkB_up {i : Nat} (h : i ≤ 2) : LkB i ≤ 1900 := by
  match i, h with
  | 0, _ => decide
  | 1, _ => decide
  | 2, _ => decide
theorem LkB_end {i : Nat} (h : i ≤ 3) : LkB i ≤ 4000 := by
  match i, h with
  | 0, _ => decide
  | 1, _ => decide
  | 2, _ => decide
  | 3, _ => decide
theorem Bt.tx {L N : Nat} {z : Str} (h : Bt L N z) (hL : L ≤ 4000) (hN : N ≤ 50) : TxW z := by
  obtain ⟨a, b, c, d, e⟩ := h.parts hL hN
  exact ⟨a, b, c, d, e⟩
theorem chapBt {n : Nat} {g : Vw} (n1 : 1 ≤ n) (hn : n ≤ 12) (hg : g.length ≤ 5) (h : ∀ e ∈ g, nm e.1 ∧ IsP n e.2) : Bt 352 7 (chapS n g) := by
  have hne : ∀ e ∈ g, e.2 ≠ [] := fun e he h0 => by
    have := (h e he).2.len
    rw [h0] at this
    have h00 : ([] : List Nat).length = 0 := rfl
    omega
  have hl : ∀ e ∈ g, (lineS e.1 e.2).length ≤ 67 := fun e he => by
    have e0 := congrArg List.length (rowS_line (t := e.1) (hne e he))
    rw [List.length_append, ← len_tl, ← len_tl, ← len_tl] at e0
    have h2 := (items_len (by omega) (h e he).2).2
    have e1 : (Str.ofString " ").length = 1 := by decide +kernel
    have e2 : (Str.ofString "\n").length = 1 := by decide +kernel
    have e3 := (h e he).1.2.1
    unfold rowS at e0
    rw [Str.length_append, Str.length_append, Str.length_append] at e0
    omega
  have hasc : ∀ e ∈ g, ∀ c ∈ tl (lineS e.1 e.2), c < 128 := fun e he c hc => by
    unfold lineS at hc
    rw [TL.join_eq, tl_join] at hc
    rcases mem_joinL hc with hc | ⟨l, hl, hd⟩
    · have e : tl (Str.ofString " ") = [32] := rfl
      rw [e] at hc
      have := List.mem_singleton.mp hc
      omega
    · obtain ⟨q, hq, rfl⟩ := List.mem_map.mp hl
      rcases List.mem_cons.mp hq with rfl | hq
      · have := (h e he).1.2.2 c hd
        omega
      · obtain ⟨x, _, rfl⟩ := List.mem_map.mp hq
        have := natS_digit hd
        omega
  rw [chap_split hne]
  refine Bt.join (fun p hp c hc => ?_) ?_ ?_
  · rcases List.mem_append.mp hp with hp | hp
    · rcases List.mem_cons.mp hp with rfl | hp
      · refine ⟨?_, cases_no hc⟩
        unfold casesS at hc
        rw [tl_append] at hc
        rcases List.mem_append.mp hc with hc | hc
        · have : ∀ c ∈ tl (Str.ofString "cases "), c < 128 := by decide +kernel
          exact this c hc
        · have := natS_digit hc
          omega
      · obtain ⟨e, he, rfl⟩ := List.mem_map.mp hp
        exact ⟨hasc e he c hc, line_no (h e he).1 hc⟩
    · rw [List.mem_singleton.mp hp] at hc
      cases hc
  · rw [wgt_append]
    have h1 : wgt (casesS n :: g.map fun e => lineS e.1 e.2) ≤ 11 + g.length * 68 := by
      have h3 : wgt (g.map fun e => lineS e.1 e.2) ≤ g.length * 68 := by
        clear hg hne hasc
        induction g with
        | nil => exact Nat.zero_le _
        | cons e r ih =>
          have h5 := ih (fun e he => h e (.tail _ he)) fun e he => hl e (.tail _ he)
          have h6 := hl e (.head _)
          unfold wgt at h5 ⊢
          rw [List.map_cons, List.map_cons, List.sum_cons, List.length_cons]
          omega
      have h4 : (casesS n).length ≤ 10 := by
        unfold casesS
        rw [Str.length_append]
        have := natS_len (n := n) (by omega)
        have e4 : (Str.ofString "cases ").length = 6 := by decide +kernel
        omega
      unfold wgt at h3 ⊢
      rw [List.map_cons, List.sum_cons]
      omega
    have h2 : wgt [Str.ofString ""] = 1 := by decide +kernel
    rw [h2]
    omega
  · rw [List.length_append, List.length_cons, List.length_map]
    show _ + 1 ≤ 7
    omega
def WRowT (C : Addr) (G : Hp) (u : V) : Prop := ∃ (p : Addr) (x : V) (n : Nat) (D : Addr) (f : Vw) (ys : List Str), u = .ref p ∧ G p = some (.tup [x, .int (n : Int), .ref D]) ∧ WorldAt C G x n (seenV n f ys) ∧ VwAt G D n f ∧ VwOk n f ys
theorem WRowT.exN {C : Addr} {G G' : Hp} {u : V} (h : WRowT C G u) (e : ExtN G G') : WRowT C G' u := by
  obtain ⟨p, x, n, D, f, ys, rfl, h1, h2, h3, h4⟩ := h
  exact ⟨p, x, n, D, f, ys, rfl, e _ _ h1 (fun _ => nofun), h2.exN e, h3.exN e, h4⟩
theorem WRowT.keepN {C : Addr} {G G' : Hp} {u : V} (h : WRowT C G u) (e : Eyes.keepN G G') : WRowT C G' u := by
  obtain ⟨p, x, n, D, f, ys, rfl, h1, h2, h3, h4⟩ := h
  exact ⟨p, x, n, D, f, ys, rfl, e _ _ h1 (fun _ => nofun), h2.keepN e, h3.keepN e, h4⟩
theorem nm_zz : Eyes.nm (Str.ofString "zz") := by
  refine ⟨by decide +kernel, by decide +kernel, ?_⟩
  decide +kernel
theorem lineZ_len {p : List Nat} (hP : IsP 2000 p) : (lineS (Str.ofString "zz") p).length ≤ 10003 := by
  have hpn : p ≠ [] := fun h0 => by
    have := hP.len
    rw [h0] at this
    exact absurd this (by decide)
  have e0 := congrArg List.length (rowS_line (t := Str.ofString "zz") hpn)
  rw [List.length_append, ← len_tl, ← len_tl, ← len_tl] at e0
  have h2 := (items_len (by omega) hP).2
  have e1 : (Str.ofString " ").length = 1 := by decide +kernel
  have e2 : (Str.ofString "\n").length = 1 := by decide +kernel
  have e3 : (Str.ofString "zz").length = 2 := by decide +kernel
  unfold rowS at e0
  rw [Str.length_append, Str.length_append, Str.length_append] at e0
  omega
theorem lines_tx {p : List Nat} (hP : IsP 2000 p) {ls : List Str} (hne : ls ≠ []) (hl : ls.length ≤ 3) (hw : wgt ls ≤ 15000) (h : ∀ l ∈ ls, l = casesS 2000 ∨ l = lineS (Str.ofString "zz") p ∨ l = Str.ofString "") : TxW (Txt.join lf ls) := by
  have hcl : (casesS 2000).length = 10 := by decide +kernel
  have hsp : ∀ l ∈ ls, (∀ c ∈ tl l, c < 128 ∧ c ≠ 10) ∧ (∀ x ws, Txt.split l (Str.ofString " ") = x :: ws → x.length ≤ 4000) ∧ (Txt.split l (Str.ofString " ")).length ≤ 4096 := fun l hl => by
    rcases h l hl with rfl | rfl | rfl
    · refine ⟨by decide +kernel, fun x ws hx => ?_, ?_⟩
      · rw [cases_split] at hx
        rw [← (List.cons.inj hx).1]
        decide +kernel
      · rw [cases_split]
        decide
    · refine ⟨fun c hc => ⟨?_, line_no nm_zz hc⟩, fun x ws hx => ?_, ?_⟩
      · unfold lineS at hc
        rw [TL.join_eq, tl_join] at hc
        rcases mem_joinL hc with hc | ⟨l, hl, hd⟩
        · have e : tl (Str.ofString " ") = [32] := rfl
          rw [e] at hc
          have := List.mem_singleton.mp hc
          omega
        · obtain ⟨q, hq, rfl⟩ := List.mem_map.mp hl
          rcases List.mem_cons.mp hq with rfl | hq
          · have := nm_zz.2.2 c hd
            omega
          · obtain ⟨x, _, rfl⟩ := List.mem_map.mp hq
            have := natS_digit hd
            omega
      · rw [line_split nm_zz] at hx
        rw [← (List.cons.inj hx).1]
        decide +kernel
      · rw [line_split nm_zz, List.length_cons, List.length_map, hP.len]
        decide
    · have e : Txt.split (Str.ofString "") (Str.ofString " ") = [Str.ofString ""] := by decide +kernel
      refine ⟨by decide +kernel, fun x ws hx => ?_, ?_⟩
      · rw [e] at hx
        rw [← (List.cons.inj hx).1]
        decide +kernel
      · rw [e]
        decide
  have hs : Txt.split (Txt.join lf ls) lf = ls := split_join (s := 10) (S := []) lf_tl (by decide +kernel) hne fun l hl hc => ((hsp l hl).1 10 hc).2 rfl
  refine ⟨Nat.le_trans (join_wgt ls) hw, fun c hc => ?_, by rw [hs]; omega, fun line hline => ?_, fun line hline => ?_⟩
  · rw [TL.join_eq, tl_join, lf_tl] at hc
    rcases mem_joinL hc with hc | ⟨l, hl, hd⟩
    · rw [List.mem_singleton.mp hc]
      decide
    · obtain ⟨q, hq, rfl⟩ := List.mem_map.mp hl
      exact ((hsp q hq).1 c hd).1
  · rw [hs] at hline
    exact (hsp line hline).2.1
  · rw [hs] at hline
    exact (hsp line hline).2.2
theorem wide_tx {p : List Nat} (hP : IsP 2000 p) : TxW (Str.ofString "cases 2000\nzz " ++ Txt.join (Str.ofString " ") (p.map natS) ++ Str.ofString "\n") ∧ TxW (cutS (Str.ofString "cases 2000\nzz " ++ Txt.join (Str.ofString " ") (p.map natS) ++ Str.ofString "\n") none (some (((Str.ofString "cases 2000\nzz " ++ Txt.join (Str.ofString " ") (p.map natS) ++ Str.ofString "\n").length : Int) - 1))) ∧ (Str.ofString "cases 2000\nzz " ++ Txt.join (Str.ofString " ") (p.map natS) ++ Str.ofString "\n").length ≤ 15000 := by
  have hpn : p ≠ [] := fun h0 => by
    have := hP.len
    rw [h0] at this
    exact absurd this (by decide)
  have hrow := rowS_line (t := Str.ofString "zz") hpn
  have hll := lineZ_len hP
  have hcl : (casesS 2000).length = 10 := by decide +kernel
  have htl : tl (Str.ofString "cases 2000\nzz " ++ Txt.join (Str.ofString " ") (p.map natS) ++ Str.ofString "\n") = tl (casesS 2000) ++ ([10] ++ (tl (lineS (Str.ofString "zz") p) ++ [10])) := by
    have e1 : tl (Str.ofString "cases 2000\nzz ") = tl (casesS 2000) ++ ([10] ++ (tl (Str.ofString "zz") ++ tl (Str.ofString " "))) := by decide +kernel
    have e2 : tl (Str.ofString "\n") = [10] := rfl
    unfold rowS at hrow
    rw [tl_append, tl_append, tl_append, e2] at hrow
    rw [tl_append, tl_append, e1, e2, ← hrow]
    simp only [List.append_assoc]
  have hz1 : Str.ofString "cases 2000\nzz " ++ Txt.join (Str.ofString " ") (p.map natS) ++ Str.ofString "\n" = Txt.join lf [casesS 2000, lineS (Str.ofString "zz") p, Str.ofString ""] := by
    refine ext_tl ?_
    rw [htl, TL.join_eq, tl_join, lf_tl]
    rfl
  have hz2 : cutS (Str.ofString "cases 2000\nzz " ++ Txt.join (Str.ofString " ") (p.map natS) ++ Str.ofString "\n") none (some (((Str.ofString "cases 2000\nzz " ++ Txt.join (Str.ofString " ") (p.map natS) ++ Str.ofString "\n").length : Int) - 1)) = Txt.join lf [casesS 2000, lineS (Str.ofString "zz") p] := by
    have hlen := congrArg List.length htl
    rw [← len_tl] at hlen
    rw [List.length_append, List.length_append, List.length_append] at hlen
    have h10 : ([10] : List Nat).length = 1 := rfl
    generalize Str.ofString "cases 2000\nzz " ++ Txt.join (Str.ofString " ") (p.map natS) ++ Str.ofString "\n" = z at htl hlen ⊢
    rw [show (z.length : Int) - 1 = ((z.length - 1 : Nat) : Int) by omega, cutS_to, htl]
    refine ext_tl ?_
    rw [TL.join_eq, tl_join, lf_tl]
    show (tl (casesS 2000) ++ ([10] ++ (tl (lineS (Str.ofString "zz") p) ++ [10]))).take (z.length - 1) = tl (casesS 2000) ++ ([10] ++ tl (lineS (Str.ofString "zz") p))
    rw [← List.append_assoc, ← List.append_assoc, ← List.append_assoc]
    refine List.take_left' ?_
    rw [List.length_append, List.length_append]
    omega
  have w1 : wgt [casesS 2000, lineS (Str.ofString "zz") p, Str.ofString ""] = (casesS 2000).length + 1 + ((lineS (Str.ofString "zz") p).length + 1 + 1) := rfl
  have w2 : wgt [casesS 2000, lineS (Str.ofString "zz") p] = (casesS 2000).length + 1 + ((lineS (Str.ofString "zz") p).length + 1) := rfl
  have hw1 : wgt [casesS 2000, lineS (Str.ofString "zz") p, Str.ofString ""] ≤ 15000 := by omega
  have hw2 : wgt [casesS 2000, lineS (Str.ofString "zz") p] ≤ 15000 := by omega
  rw [hz2, hz1]
  refine ⟨lines_tx hP (List.cons_ne_nil _ _) (by show 3 ≤ 3; decide) hw1 fun l hl => ?_, lines_tx hP (List.cons_ne_nil _ _) (by show 2 ≤ 3; decide) hw2 fun l hl => ?_, Nat.le_trans (join_wgt _) hw1⟩
  · simp only [List.mem_cons, List.not_mem_nil, or_false] at hl
    exact hl
  · simp only [List.mem_cons, List.not_mem_nil, or_false] at hl
    exact hl.imp_right .inl
def spLaw (K : PySem.W.Frag) (TT : List (Addr × Str)) : Sp := fun vs H Q _ => ∃ (a : Addr) (ns : List Int), vs = [.ref a] ∧ SqL K H a (ns.map V.int) ∧ ns.length ≤ 63 ∧ Tabs TT H ∧ ∀ H', Q (.bl true) H'
section
variable {P : Program} {w : World} {K : PySem.W.Frag} {mg : Str → Option Value} {base : Heap} {AA : Adr}
theorem ok_law (T : Txt K mg AA) (TB : TabB base mg AA.cdA AA.tbA) : Pr P w K mg base "law" s_law p_law 90 (spLaw K (TT AA)) := by
  refine pr_mk T.f_law sc_law (fun vs H Q E h => ?_) (fun f cdv A outer s H vs Q E hr h => ?_)
  · obtain ⟨a, ns, rfl, _⟩ := h
    rfl
  · obtain ⟨a, ns, rfl, hS, hlen, hT, q⟩ := h
    refine ⟨_, (pss_cons (ps_set (i := 1) sc_law.nd rfl (.inl rfl) (pcall (ok_law_bag T) hr (pa_cons (pv 0) pa_nil)))
      (pss_cons (ps_set (i := 2) sc_law.nd rfl (.inl rfl) (pe_lst pa_nil))
      (Evl.pss_cut (ps_for PassesOwn.never rfl (pi_range1 (by rfl) T.n_range (pa_cons pe_int pa_nil)) (pg_name (i := 3) sc_law.nd rfl (.inl rfl))
      (pss_cons (ps_set (i := 4) sc_law.nd rfl (.inl rfl) (pcall (ok_law_of T) hr (pa_cons (pv 1) (pa_cons (pe_lst (pa_cons pe_int (pa_cons pe_int (pa_cons pe_int (pa_cons pe_int (pa_cons pe_int (pa_cons pe_int (pa_cons pe_int pa_nil)))))))) pa_nil))))
      (pss_cons (ps_set (i := 5) sc_law.nd rfl (.inl rfl) (pcall (ok_law_titles T) hr (pa_cons (pv 1) (pa_cons (pe_op op_add pe_int (pcall (ok_law_draw T) hr (pa_cons (pv 1) (pa_cons pe_int pa_nil)))) pa_nil))))
      (pss_cons (ps_set (i := 6) sc_law.nd rfl (.inl rfl) (pcall (ok_law_views T) hr (pa_cons (pv 4) (pa_cons (pcall (ok_law_knots T) hr (pa_cons (pv 1) (pa_cons (pv 5) (pa_cons (pv 4) (pa_cons (pe_op op_add pe_int (pcall (ok_law_draw T) hr (pa_cons (pv 1) (pa_cons pe_int pa_nil)))) pa_nil))))) pa_nil))))
      (pss_cons (ps_set (i := 7) sc_law.nd rfl (.inl rfl) (psta (ok_World_partedN T) hr (pe_glob (v := .ref AA.World) (by rfl) T.m_World rfl) (pa_cons (pv 4) (pa_cons (pv 6) pa_nil))))
      (pss_cons (ps_set (i := 8) sc_law.nd rfl (.inl rfl) (pcall (ok_law_chapter T) hr (pa_cons (pv 4) (pa_cons (pv 6) pa_nil))))
      (pss_cons (ps_if (PW.pt (pw_or (pt_not (pt_val (pcall (ok_law_world_so T) hr (pa_cons (pv 7) (pa_cons (pv 4) (pa_cons (pv 6) pa_nil)))))) (pw_or1 (pt_not (pt_val (pcall (ok_law_text_so T TB) hr (pa_cons (pv 8) pa_nil)))))))
      (pss_one (ps_ret pe_bl))
      pss_nil)
      (pss_cons (ps_set (i := 9) sc_law.nd rfl (.inl rfl) (pcall (ok_law_seen T) hr (pa_cons (pv 4) (pa_cons (pv 6) pa_nil))))
      (Evl.pss_cut (ps_for PassesOwn.never rfl (pi_range1 (by rfl) T.n_range (pa_cons pe_int pa_nil)) (pg_name (i := 10) sc_law.nd rfl (.inl rfl))
      (pss_cons (ps_set (i := 11) sc_law.nd rfl (.inl rfl) (pv 8))
      (Evl.pss_cut (ps_for PassesOwn.never rfl (pi_range1 (by rfl) T.n_range (pa_cons (pcall (ok_law_of T) hr (pa_cons (pv 1) (pa_cons (pe_lst (pa_cons pe_int (pa_cons pe_int (pa_cons pe_int (pa_cons pe_int pa_nil))))) pa_nil))) pa_nil)) (pg_name (i := 12) sc_law.nd rfl (.inl rfl))
      (pss_one (ps_set (i := 11) sc_law.nd rfl (.inl rfl) (pcall (ok_law_bent T) hr (pa_cons (pv 1) (pa_cons (pv 11) (pa_cons (pv 4) (pa_cons (pv 9) pa_nil))))))))
      (pss_one (ps_if (pt_not (pt_val (pcall (ok_law_text_so T TB) hr (pa_cons (pv 11) pa_nil))))
      (pss_one (ps_ret pe_bl))
      pss_nil)))))
      (pss_one (ps_expr (pe_bm PySem.F.plainAttrs_list PySem.F.slot_list_append PySem.F.type_list_append mt_append (pv 2) (pa_cons (pe_tup (pa_cons (pv 7) (pa_cons (pv 4) (pa_cons (pv 6) pa_nil)))) pa_nil)))))))))))))
      (pss_cons (ps_set (i := 13) sc_law.nd rfl (.inl rfl) (pcall (ok_law_of T) hr (pa_cons (pv 1) (pa_cons (pe_lst (pa_cons pe_non (pa_cons pe_bl (pa_cons pe_int (pa_cons (pe_lst pa_nil) (pa_cons (pe_tup (pa_cons (pv 8) pa_nil)) (pa_cons (pe_lst (pa_cons (pv 8) pa_nil)) (pa_cons (pe_lst (pa_cons pe_str pa_nil)) (pa_cons (pe_ix (ix_tupK (K := K) rfl) (pe_ix (ix_listK (K := K) rfl) (pv 2) pe_int (fun _ _ => rfl)) pe_int (fun _ _ => rfl)) (pa_cons (pe_tup (pa_cons pe_str pa_nil)) pa_nil)))))))))) pa_nil))))
      (Evl.pss_cut (ps_for PassesOwn.never rfl (pi_list (pe_lst (pa_cons (pv 13) (pa_cons pe_str (pa_cons pe_str (pa_cons pe_str (pa_cons pe_str (pa_cons pe_str (pa_cons pe_str (pa_cons pe_str pa_nil)))))))))) (pg_name (i := 14) sc_law.nd rfl (.inl rfl))
      (pss_one (ps_if (pt_not (pt_val (pcall (ok_law_text_so T TB) hr (pa_cons (pv 14) pa_nil))))
      (pss_one (ps_ret pe_bl))
      pss_nil)))
      (Evl.pss_cut (ps_if (pt_cmpR op_eq (pcall (ok_law_draw T) hr (pa_cons (pv 1) (pa_cons pe_int pa_nil))) pe_int (nomark _))
      (pss_cons (ps_set (i := 15) sc_law.nd rfl (.inl rfl) (pcall (ok_law_merged T) hr (pa_cons (pcall (ok_law_alone T) hr (pa_cons pe_int pa_nil)) (pa_cons (pe_lst (pa_cons (pe_tup (pa_cons (pe_op op_add pe_int (pcall (ok_law_draw T) hr (pa_cons (pv 1) (pa_cons pe_int pa_nil)))) (pa_cons pe_int pa_nil))) pa_nil)) pa_nil))))
      (pss_cons (ps_set (i := 16) sc_law.nd rfl (.inl rfl) (pe_op op_add_str (pe_op op_add_str pe_str (pe_join pe_str (pe_lc (own := [("_law_k", 10)]) (g := gName 10) (tt := tYes) rfl sc_law.nd (pi_tup (pv 15)) (blkOk_by (own := [("_law_k", 10)]) (N := n_law) (sc := defScope s_law) (by decide +kernel)) (fun _ _ _ _ _ => (pg_name (i := 10) sc_law.nd rfl (.inl rfl))) (fun _ _ _ _ _ => pts_nil) (fun _ _ _ _ _ => (pe_callTy call_str_int (by rfl) T.n_str PyProof.Rows.boot_str (pa_cons (pv 10) pa_nil)))))) pe_str))
      (pss_one (ps_if (PW.pt (pw_or (pt_not (pt_val (pcall (ok_law_text_so T TB) hr (pa_cons (pv 16) pa_nil)))) (pw_or1 (pt_not (pt_val (pcall (ok_law_text_so T TB) hr (pa_cons (pe_slice sl_str (pv 16) po_none (po_some (pe_op op_sub (pe_callB call_len_str (by rfl) T.n_len PySem.boot_len (pa_cons (pv 16) pa_nil)) pe_int))) pa_nil)))))))
      (pss_one (ps_ret pe_bl))
      pss_nil))))
      pss_nil)
      (pss_one (ps_ret (pe_callB (cr_all rfl) (by rfl) T.n_all PyProof.Rows.boot_all (pa_cons (pe_lc (own := [("_law_w", 7), ("_law_size", 4), ("_law_views_here", 6)]) (g := gTup K 3 (gCons (gName 7) (gCons (gName 4) (gCons (gName 6) gNil)))) (tt := tYes) rfl sc_law.nd (pi_list (pv 2)) (blkOk_by (own := [("_law_w", 7), ("_law_size", 4), ("_law_views_here", 6)]) (N := n_law) (sc := defScope s_law) (by decide +kernel)) (fun _ _ _ _ _ => (pg_tup (by rfl) (pgs_cons (pg_name (i := 7) sc_law.nd rfl (.inl rfl)) (pgs_cons (pg_name (i := 4) sc_law.nd rfl (.inl rfl)) (pgs_cons (pg_name (i := 6) sc_law.nd rfl (.inl rfl)) pgs_nil))))) (fun _ _ _ _ _ => pts_nil) (fun _ _ _ _ _ => (pcall (ok_law_world_so T) hr (pa_cons (pv 7) (pa_cons (pv 4) (pa_cons (pv 6) pa_nil)))))) pa_nil)))))))))), ?_⟩
    refine ⟨_, rfl, a, ns, rfl, hS, fun b H1 hb hA1 => ?_⟩
    refine ⟨by show 0 ≤ sizeLine; decide, fun WL hWL => ?_⟩
    have hA2 := hA1.new (o := .lst []) hWL
    have hG2 := upd_same (H := H) (a := WL) (o := HO.lst [])
    have hT2 := hT.ext (Ex.new (o := .lst []) (hA1.nh hWL))
    generalize upd H WL (.lst []) = G2 at hA2 hG2 hT2
    generalize upd H1 WL (.lst []) = H2 at hA2 ⊢
    refine ⟨fun σ H' => ∃ (G' : Hp) (ws : List V) (y3 y4 y5 y6 y7 y9 y10 y11 y12 : Option V) (z8 : Str), σ = [some (.ref a), some (.ref b), some (.ref WL), y3, y4, y5, y6, y7, some (.str z8), y9, y10, y11, y12, none, none, none, none] ∧ At b G' H' ∧ Tabs (TT AA) G' ∧ G' WL = some (.lst ws) ∧ ws.length = 2 ∧ ∀ u ∈ ws, WRowT AA.World G' u, ?_, fun σ H3 hM => ?_⟩
    · refine ⟨_, rfl, by decide, by decide, ?_⟩
      refine for_it walk_range (fun i σ H' => ∃ (G' : Hp) (ws : List V) (y3 y4 y5 y6 y7 y8 y9 y10 y11 y12 : Option V), σ = [some (.ref a), some (.ref b), some (.ref WL), y3, y4, y5, y6, y7, y8, y9, y10, y11, y12, none, none, none, none] ∧ (i = 0 ∨ ∃ z8 : Str, y8 = some (.str z8)) ∧ At b G' H' ∧ Tabs (TT AA) G' ∧ G' WL = some (.lst ws) ∧ ws.length = i ∧ ∀ u ∈ ws, WRowT AA.World G' u) ⟨G2, [], none, none, none, none, none, none, none, none, none, none, rfl, .inl rfl, hA2, hT2, hG2, rfl, fun u hu => nomatch hu⟩ (fun _ _ _ _ _ => True.intro) (fun i kv σ H3 H4 hi hp hy => ?_) (fun σ H3 hp => ?_)
      · obtain ⟨rfl, rfl⟩ := hy
        obtain ⟨G3, ws, y3, y4, y5, y6, y7, y8, y9, y10, y11, y12, rfl, _, hA3, hT3, hG3, hwl, hws⟩ := hp
        -- size
        refine ⟨_, rfl, by show 7 ≤ sizeLine; decide, fun L hL => ⟨b, .ref L, _, _, rfl, hA3.new hL, .inl ⟨L, rfl, sq_of upd_same⟩, by decide, by decide, fun kx H4 hkx hA4 => ?_⟩⟩
        obtain ⟨n, rfl, n1, n9⟩ := size12 hkx
        have hA4 := hA4.weak (Ex.new (hA3.nh hL))
        -- titles
        refine ⟨_, rfl, _, rfl, b, 4, G3, rfl, hA4, by decide, by decide, fun sz H5 z0 z1 hA5 => ⟨2, sz, rfl, rfl, b, 2 + sz, G3, rfl, hA5, by omega, by omega, fun tla ts H6 htl hA6 hlt hnm => ?_⟩⟩
        have x6 : Ex G3 (upd G3 tla (.lst (ts.map V.str))) := Ex.new htl
        have hT6 := upd_same (H := G3) (a := tla) (o := HO.lst (ts.map V.str))
        generalize upd G3 tla (.lst (ts.map V.str)) = G6 at hA6 x6 hT6
        have hts0 : 0 < ts.length := by omega
        have hts5 : ts.length ≤ 5 := by omega
        have hne : ts ≠ [] := fun e => by
          rw [e] at hts0
          exact absurd hts0 (by decide)
        -- views
        refine ⟨_, rfl, _, rfl, _, rfl, _, rfl, _, rfl, b, 9, G6, rfl, hA6, by decide, by decide, fun d2 H7 e0 e1 hA7 => ⟨1, d2, rfl, rfl, ?_⟩⟩
        obtain ⟨c2, rfl⟩ := Int.eq_ofNat_of_zero_le e0
        have e12 : ((1 + c2 : Nat) : Int) = (1 : Int) + (c2 : Int) := by omega
        refine ⟨b, tla, G6, ts, n, 1 + c2, (by rw [e12]; rfl), hA7, hT6, hne, by omega, n1, by omega, by omega, fun D1 us ks G8 H8 x8 hA8 hD1 hDn1 hK hkl hks => ?_⟩
        have hkn : ∀ k ∈ ks, Eyes.nm k.1 ∧ inK n k := fun k hk => ⟨hnm _ (hks k hk).1, ⟨(hks k hk).2.1, (hks k hk).2.2.1⟩, (hks k hk).2.2.2.1, (hks k hk).2.2.2.2⟩
        have hkl9 : ks.length ≤ 9 := by omega
        refine ⟨n, D1, us, ks, rfl, by omega, hA8.ex _ _ hD1, hK.mono hA8.ex, by omega, (fun k hk => (hks k hk).2), fun Dv H9 e9 hDv hVw => ?_⟩
        have hf5 : (knotsV n ks).length ≤ 5 := by
          have := nodup_le (knotsV_nodup n ks) (b := ts) fun t ht => by
            obtain ⟨k, hk, rfl⟩ := knotsV_names ht
            exact (hks k hk).1
          rw [List.length_map] at this
          omega
        have hfn : ∀ t ∈ (knotsV n ks).map (·.1), Eyes.nm t := fun t ht => by
          obtain ⟨k, hk, rfl⟩ := knotsV_names ht
          exact (hkn k hk).1
        have hok : ∀ {ys : List Str}, ys.Perm ((knotsV n ks).map (·.1)) → sortedS ys = true → VwOk n (knotsV n ks) ys := fun hp hs => okT n1 (by omega) (by omega) hkn hp hs
        obtain ⟨G9, hA9, x9, gN9, _⟩ := hA8.allF e9
        have hV9 := hVw.keepN gN9
        have x39 := x6.trans (x8.trans x9)
        have hW9 := x39 _ _ hG3
        have hT9 := hT3.ext x39
        have hws9 := fun u hu => (hws u hu).keepN (keepN.ex x39)
        have hnd := knotsV_nodup n ks
        clear hVw hDv e9 hA3 hA4 hA5 hA6 hA7 hA8 hws hG3 hK hD1 hDn1 hL hkx htl hT6 x6 x8 x9 e0 e1 z0 z1 gN9 hT3 hks hkn x39 hkl
        generalize knotsV n ks = f at hf5 hfn hok hV9 hnd ⊢
        have few : f.length < 64 := by omega
        have pre : VwPre n f := ⟨n1, by omega, hnd, fun e he => by
          have := (hfn _ (List.mem_map.mpr ⟨e, he, rfl⟩)).2.1
          omega, hV9.isP⟩
        -- the world
        refine ⟨rfl, _, rfl, _, rfl, Dv, n, f, rfl, hV9.mono hA9.ex, pre, hfn, few, fun u H10 e10 hu => ?_⟩
        -- its text
        refine ⟨_, rfl, _, rfl, n, Dv, f, rfl, by omega, (hV9.mono hA9.ex).mono e10, few, hnd, pre.nm, fun H11 ys e11 hys hso => ?_⟩
        have ok := hok hys hso
        have hw10 : WorldAt AA.World H10 u n (seenV n f ys) := by
          obtain ⟨g, zs, h1, ok2, _, hg⟩ := hu.is
          rw [← seen_canon (f := g) (g := f) (fun t => hg t) ok2.pm ok.pm ok2.nd ok.nd ok2.so ok.so]
          exact h1
        obtain ⟨G11, hA11, x11, g11, _⟩ := hA9.allF (e10.trans e11)
        have hw11 := (hw10.mono e11).keepN g11
        have hV11 := hV9.mono x11
        have hT11 := hT9.ext x11
        have hW11 := x11 _ _ hW9
        have hws11 := fun u hu => (hws9 u hu).keepN (keepN.ex x11)
        have hsn : ∀ e ∈ seenV n f ys, Eyes.nm e.1 := fun e he => hfn _ (seenV_sub (n := n) ok.pm (List.mem_map.mpr ⟨e, he, rfl⟩))
        have hsl : (seenV n f ys).length ≤ 5 := by
          have h1 : (seenV n f ys).length ≤ ys.length := List.length_filterMap_le ..
          have h2 := ok.pm.length_eq
          rw [List.length_map] at h2
          omega
        have hB0 := chapBt n1 n9 hsl fun e he => ⟨hsn e he, (ok.fewV.2.2 e he).2⟩
        clear e10 e11 hu hw10 hys hso hws9 hW9 hT9 hV9 hA9 g11 x11
        generalize hz0 : chapS n (seenV n f ys) = z0 at hB0 ⊢
        clear hz0
        refine ⟨_, rfl, _, rfl, _, rfl, u, Dv, n, f, ys, rfl, hw11.mono hA11.ex, hV11.mono hA11.ex, ok, fun H12 e12 => ⟨_, rfl, iteF ?_⟩⟩
        obtain ⟨G12, hA12, x12, g12, _⟩ := hA11.allF e12
        refine ⟨_, rfl, _, rfl, .inr ⟨z0, rfl, hB0.tx (by decide) (by decide)⟩, (hT11.ext x12).ext hA12.ex, fun H13 n13 t13 => ⟨_, rfl, iteF ?_⟩⟩
        obtain ⟨G13, hA13, m13, hT13, _⟩ := hA12.extN n13 t13
        have m1113 := (ExtN.of x12).trans m13
        -- seen
        refine ⟨_, rfl, _, rfl, n, Dv, f, rfl, by omega, (hV11.exN m1113).mono hA13.ex, few, hnd, fun S0 H14 u0 e14 hS0 hu0 hv0 hVS0 => ?_⟩
        have h0 := ok.one hu0 hv0
        subst h0
        obtain ⟨G14, hA14, x14, g14, _⟩ := hA13.allF e14
        have m1114 := m1113.trans (ExtN.of x14)
        have hVS := hVS0.keepN g14
        have hw14 := hw11.exN m1114
        have hV14 := hV11.exN m1114
        have hT14 := hT13.ext x14
        have hW14 := m1114 _ _ hW11 (fun _ => nofun)
        have hws14 := fun u hu => (hws11 u hu).exN m1114
        clear hVS0 hS0 e14 hu0 hv0 hA11 hA12 hA13 e12 n13 t13 hT11 hT13 hV11 hw11 hW11 hws11 m13 m1113 m1114 x12 x14 g12 g14
        -- bends
        refine ⟨fun σ H' => ∃ (G' : Hp) (y10 y11 y12 : Option V), σ = [some (.ref a), some (.ref b), some (.ref WL), some (.int (0 + (i : Int))), some (.int (n : Int)), some (.ref tla), some (.ref Dv), some u, some (.str z0), some (.ref S0), y10, y11, y12, none, none, none, none] ∧ At b G' H' ∧ ExtN G14 G' ∧ Tabs (TT AA) G', ?_, fun σ H15 hM => ?_⟩
        · refine ⟨_, rfl, by decide, by decide, ?_⟩
          refine for_it walk_range (fun _ σ H' => ∃ (G' : Hp) (y10 y11 y12 : Option V), σ = [some (.ref a), some (.ref b), some (.ref WL), some (.int (0 + (i : Int))), some (.int (n : Int)), some (.ref tla), some (.ref Dv), some u, some (.str z0), some (.ref S0), y10, y11, y12, none, none, none, none] ∧ At b G' H' ∧ ExtN G14 G' ∧ Tabs (TT AA) G') ⟨G14, _, _, _, rfl, hA14, ExtN.refl _, hT14⟩ (fun _ _ _ _ _ => True.intro) (fun k kv σ H15 H16 hk hp hy => ?_) (fun σ H15 hp => hp)
          obtain ⟨rfl, rfl⟩ := hy
          obtain ⟨G15, y10, y11, y12, rfl, hA15, m15, hT15⟩ := hp
          refine ⟨_, rfl, ?_⟩
          refine ⟨fun σ H' => ∃ (y12 : Option V) (z : Str), σ = [some (.ref a), some (.ref b), some (.ref WL), some (.int (0 + (i : Int))), some (.int (n : Int)), some (.ref tla), some (.ref Dv), some u, some (.str z0), some (.ref S0), some (.int (0 + (k : Int))), some (.str z), y12, none, none, none, none] ∧ TxW z ∧ At b G15 H', ?_, fun σ H16 hM => ?_⟩
          · refine ⟨_, rfl, by show 4 ≤ sizeLine; decide, fun L hL => ⟨b, .ref L, _, _, rfl, hA15.new hL, .inl ⟨L, rfl, sq_of upd_same⟩, by decide, by decide, fun kx H16 hkx hA16 => ?_⟩⟩
            obtain ⟨m, rfl, hm⟩ := bends3 hkx
            have hA16 := hA16.weak (Ex.new (hA15.nh hL))
            refine ⟨_, rfl, by omega, by omega, ?_⟩
            rw [show ((m : Nat) : Int).toNat = m by omega]
            refine for_it walk_range (fun j σ H' => ∃ (y12 : Option V) (z : Str), σ = [some (.ref a), some (.ref b), some (.ref WL), some (.int (0 + (i : Int))), some (.int (n : Int)), some (.ref tla), some (.ref Dv), some u, some (.str z0), some (.ref S0), some (.int (0 + (k : Int))), some (.str z), y12, none, none, none, none] ∧ Bt (LkB j) (7 + 2 * j) z ∧ At b G15 H') ⟨_, z0, rfl, hB0, hA16⟩ (fun _ _ _ _ _ => True.intro) (fun j jv σ H17 H18 hj hp hy => ?_) (fun σ H17 hp => ?_)
            · obtain ⟨rfl, rfl⟩ := hy
              obtain ⟨y12, z, rfl, hz, hA17⟩ := hp
              refine ⟨_, rfl, _, rfl, _, rfl, _, rfl, b, z, n, S0, seenV n f u0, G15, LkB j, 7 + 2 * j, rfl, hA17, hz, LkB_lo j, LkB_up (by omega), by omega, n1, n9, hVS.exN m15, by omega, hsn, fun z2 H18 hz2 hA18 => ?_⟩
              exact ⟨_, z2, rfl, hz2, hA18⟩
            · obtain ⟨y12, z, rfl, hz, hA17⟩ := hp
              exact ⟨_, z, rfl, hz.tx (LkB_end hm) (by omega), hA17⟩
          obtain ⟨y12, z, rfl, hz, hA16⟩ := hM
          refine ⟨_, rfl, _, rfl, .inr ⟨z, rfl, hz⟩, hT15.ext hA16.ex, fun H17 n17 t17 => ⟨_, rfl, iteF ?_⟩⟩
          obtain ⟨G17, hA17, m17, hT17, _⟩ := hA16.extN n17 t17
          exact ⟨G17, _, _, _, rfl, hA17, m15.trans m17, hT17⟩
        obtain ⟨G15, y10, y11, y12, rfl, hA15, m15, hT15⟩ := hM
        have hW15 := m15 _ _ hW14 (fun _ => nofun)
        have hw15 := hw14.exN m15
        have hV15 := hV14.exN m15
        have hws15 := fun u hu => (hws14 u hu).exN m15
        -- kept
        refine ⟨_, rfl, .inl ⟨rfl, ws, sq_of (hA15.ex _ _ hW15)⟩, _, rfl, _, rfl, _, rfl, by show 3 ≤ sizeLine; decide, fun rp hrp => ?_⟩
        have hA16 := hA15.new (o := .tup [u, .int (n : Int), .ref Dv]) hrp
        have x16 := Ex.new (o := .tup [u, .int (n : Int), .ref Dv]) (hA15.nh hrp)
        have hR16 := upd_same (H := G15) (a := rp) (o := HO.tup [u, .int (n : Int), .ref Dv])
        generalize upd G15 rp _ = G16 at hA16 x16 hR16
        generalize upd H15 rp _ = H16 at hA16 ⊢
        have hW16 := x16 _ _ hW15
        refine ⟨WL, ws, _, rfl, rfl, hA16.ex _ _ hW16, sz_lt (by omega), ?_⟩
        have k17 : Eyes.keepN G16 (upd G16 WL (.lst (ws ++ [.ref rp]))) := keepN.put hW16
        refine ⟨upd G16 WL (.lst (ws ++ [.ref rp])), ws ++ [.ref rp], _, _, _, _, _, _, _, _, _, _, rfl, .inr ⟨z0, rfl⟩, hA16.put' hW16, Tabs.lstT hW16 (hT15.ext x16), upd_same, ?_, fun v hv => ?_⟩
        · rw [List.length_append, hwl]
          rfl
        · rcases List.mem_append.mp hv with hv | hv
          · exact ((hws15 v hv).exN (ExtN.of x16)).keepN k17
          · rw [List.mem_singleton.mp hv]
            exact ⟨rp, u, n, Dv, f, u0, rfl, k17 _ _ hR16 (fun _ => nofun), (hw15.mono x16).keepN k17, (hV15.mono x16).keepN k17, ok⟩
      · obtain ⟨G', ws, y3, y4, y5, y6, y7, y8, y9, y10, y11, y12, rfl, h8, h1, h2, h3, h4, h5⟩ := hp
        rcases h8 with h8 | ⟨z8, rfl⟩
        · exact absurd h8 (by decide)
        · exact ⟨G', ws, _, _, _, _, _, _, _, _, _, z8, rfl, h1, h2, h3, h4, h5⟩
    obtain ⟨G3, ws, y3, y4, y5, y6, y7, y9, y10, y11, y12, z8, rfl, hA3, hT3, hG3, hwl, hws⟩ := hM
    -- a thing that is no text
    obtain ⟨v0, w1, rfl⟩ : ∃ v0 w1, ws = [v0, w1] := by
      match ws, hwl with
      | [v0, w1], _ => exact ⟨v0, w1, rfl⟩
    obtain ⟨p0, x0, m0, D0, f0, ys0, rfl, r0, w0, _, _⟩ := hws v0 (.head _)
    refine ⟨_, rfl, by show 0 ≤ sizeLine; decide, fun p1 h1 => ?_⟩
    have hA4 := hA3.new (o := .lst []) h1
    refine ⟨_, rfl, by show 1 ≤ sizeLine; decide, fun p2 h2 => ?_⟩
    have hA5 := hA4.new (o := .tup [.str z8]) h2
    refine ⟨_, rfl, by show 1 ≤ sizeLine; decide, fun p3 h3 => ?_⟩
    have hA6 := hA5.new (o := .lst [.str z8]) h3
    refine ⟨by show 1 ≤ sizeLine; decide, fun p4 h4 => ?_⟩
    have hA7 := hA6.new (o := .lst [.str (Str.ofString "cases 1\n")]) h4
    have e7 := (Ex.new (o := .lst []) (hA3.nh h1)).trans ((Ex.new (o := .tup [.str z8]) (hA4.nh h2)).trans ((Ex.new (o := .lst [.str z8]) (hA5.nh h3)).trans (Ex.new (o := .lst [.str (Str.ofString "cases 1\n")]) (hA6.nh h4))))
    refine ⟨_, rfl, WL, _, 0, .ref p0, rfl, rfl, sq_of (hA7.ex _ _ (e7 _ _ hG3)), at0, p0, _, 0, x0, rfl, rfl, st_of (hA7.ex _ _ (e7 _ _ r0)), at0, by show 1 ≤ sizeLine; decide, fun p5 h5 => ⟨by show 9 ≤ sizeLine; decide, fun L hL => ?_⟩⟩
    have hA8 := hA7.new (o := .tup [.str (Str.ofString "cases 1\n")]) h5
    refine ⟨b, .ref L, _, _, rfl, hA8.new hL, .inl ⟨L, rfl, sq_of upd_same⟩, by show 0 < 9; decide, by show 9 < _; decide, fun v H9 hv hA9 => ?_⟩
    have i5 := Ex.new (o := .tup [.str z8]) (hA4.nh h2)
    have i6 := Ex.new (o := .lst [.str z8]) (hA5.nh h3)
    have i7 := Ex.new (o := .lst [.str (Str.ofString "cases 1\n")]) (hA6.nh h4)
    have i8 := Ex.new (o := .tup [.str (Str.ofString "cases 1\n")]) (hA7.nh h5)
    have i9 := Ex.new (o := .lst [.non, .bl true, .int 7, .ref p1, .ref p2, .ref p3, .ref p4, x0, .ref p5]) (hA8.nh hL)
    have g1 := (i5.trans (i6.trans (i7.trans (i8.trans i9)))) _ _ (upd_same (H := G3) (a := p1) (o := HO.lst []))
    have g2 := (i6.trans (i7.trans (i8.trans i9))) _ _ upd_same
    have g3 := (i7.trans (i8.trans i9)) _ _ upd_same
    have g4 := (i8.trans i9) _ _ upd_same
    have g5 := i9 _ _ upd_same
    have e9 := e7.trans (i8.trans i9)
    have w9 := w0.mono e9
    have hG9 := e9 _ _ hG3
    have hT9 := hT3.ext e9
    have hws9 := fun u hu => (hws u hu).exN (ExtN.of e9)
    clear hA3 hA4 hA5 hA6 hA7 hA8 i5 i6 i7 i8 i9 e7 e9 h1 h2 h3 h4 h5 hL w0 r0 hG3 hT3 hws
    generalize upd _ L (.lst [.non, .bl true, .int 7, .ref p1, .ref p2, .ref p3, .ref p4, x0, .ref p5]) = G9 at hA9 g1 g2 g3 g4 g5 w9 hG9 hT9 hws9
    have hno : NoTxt K G9 v := by
      obtain ⟨px, dx, Dx, rfl, hpx, _⟩ := w9
      simp only [List.mem_cons, List.not_mem_nil, or_false] at hv
      rcases hv with rfl | rfl | rfl | rfl | rfl | rfl | rfl | rfl | rfl
      · exact ⟨_, .base .non, kit_ty (by decide +kernel)⟩
      · exact ⟨_, .base (.bl _), kit_ty (by decide +kernel)⟩
      · exact ⟨_, .base (.int _), kit_ty (by decide +kernel)⟩
      · exact ⟨_, .base (.lst g1), kit_ty (by decide +kernel)⟩
      · exact ⟨_, .base (.tup g2), kit_ty (by decide +kernel)⟩
      · exact ⟨_, .base (.lst g3), kit_ty (by decide +kernel)⟩
      · exact ⟨_, .base (.lst g4), kit_ty (by decide +kernel)⟩
      · exact ⟨_, .base (.ins hpx T.c_World T.y_World.ty1 T.y_World.ty2 T.y_World.ty3 T.y_World.ty4), T.y_World.k_str⟩
      · exact ⟨_, .base (.tup g5), kit_ty (by decide +kernel)⟩
    clear g1 g2 g3 g4 g5 w9 hv
    -- the thing and some texts
    refine ⟨fun σ H' => ∃ (G' : Hp) (y14 : Option V), σ = [some (.ref a), some (.ref b), some (.ref WL), y3, y4, y5, y6, y7, some (.str z8), y9, y10, y11, y12, some v, y14, none, none] ∧ At b G' H' ∧ ExtN G9 G' ∧ Tabs (TT AA) G', ?_, fun σ H10 hM => ?_⟩
    · refine ⟨_, rfl, by show 8 ≤ sizeLine; decide, fun L2 hL2 => ⟨L2, rfl, ⟨_, sq_of upd_same⟩, ?_⟩⟩
      have hA10 := hA9.new (o := .lst [v, .str (Str.ofString ""), .str (Str.ofString "\n"), .str (Str.ofString "cases 1\n"), .str (Str.ofString "cases 1"), .str (Str.ofString "cases 2400\n"), .str (Str.ofString "cases 2401\n"), .str (Str.ofString "cases 2\ncases 1 1\n")]) hL2
      have i10 := Ex.new (o := .lst [v, .str (Str.ofString ""), .str (Str.ofString "\n"), .str (Str.ofString "cases 1\n"), .str (Str.ofString "cases 1"), .str (Str.ofString "cases 2400\n"), .str (Str.ofString "cases 2401\n"), .str (Str.ofString "cases 2\ncases 1 1\n")]) (hA9.nh hL2)
      have g10 := upd_same (H := G9) (a := L2) (o := HO.lst [v, .str (Str.ofString ""), .str (Str.ofString "\n"), .str (Str.ofString "cases 1\n"), .str (Str.ofString "cases 1"), .str (Str.ofString "cases 2400\n"), .str (Str.ofString "cases 2401\n"), .str (Str.ofString "cases 2\ncases 1 1\n")])
      have hall : ∀ u ∈ [v, .str (Str.ofString ""), .str (Str.ofString "\n"), .str (Str.ofString "cases 1\n"), .str (Str.ofString "cases 1"), .str (Str.ofString "cases 2400\n"), .str (Str.ofString "cases 2401\n"), .str (Str.ofString "cases 2\ncases 1 1\n")], NoTxt K G9 u ∨ ∃ z : Str, u = .str z ∧ TxW z := by
        have tx : ∀ z : Str, Bt 20 3 z → NoTxt K G9 (.str z) ∨ ∃ y : Str, V.str z = .str y ∧ TxW y := fun z h => .inr ⟨z, rfl, h.tx (by decide) (by decide)⟩
        refine fa_cons (.inl hno) (fa_cons (tx _ ?_) (fa_cons (tx _ ?_) (fa_cons (tx _ ?_) (fa_cons (tx _ ?_) (fa_cons (tx _ ?_) (fa_cons (tx _ ?_) (fa_cons (tx _ ?_) fa_nil)))))))
        all_goals exact ⟨by decide +kernel, by decide +kernel, by decide +kernel⟩
      generalize [v, .str (Str.ofString ""), .str (Str.ofString "\n"), .str (Str.ofString "cases 1\n"), .str (Str.ofString "cases 1"), .str (Str.ofString "cases 2400\n"), .str (Str.ofString "cases 2401\n"), .str (Str.ofString "cases 2\ncases 1 1\n")] = xs at hA10 i10 g10 hall ⊢
      generalize upd G9 L2 (.lst xs) = G10 at hA10 i10 g10
      generalize upd H9 L2 (.lst xs) = H10 at hA10 ⊢
      refine for_list (xs := xs) (fun _ σ H' => ∃ (G' : Hp) (y14 : Option V), σ = [some (.ref a), some (.ref b), some (.ref WL), y3, y4, y5, y6, y7, some (.str z8), y9, y10, y11, y12, some v, y14, none, none] ∧ At b G' H' ∧ ExtN G10 G' ∧ Tabs (TT AA) G') ⟨G10, none, rfl, hA10, ExtN.refl _, hT9.ext i10⟩ (fun i σ H' _ hp => ?_) (fun i u σ H11 hu hp => ?_) (fun σ H11 hp => ?_)
      · obtain ⟨G', _, _, hA, m, _⟩ := hp
        exact sq_of (hA.ex _ _ (m _ _ g10 (fun _ => nofun)))
      · obtain ⟨G11, y14, rfl, hA11, m11, hT11⟩ := hp
        refine ⟨_, rfl, u, rfl, (hall u (List.mem_of_getElem? hu)).imp_left fun ⟨t, h1, h2⟩ => ⟨t, TyX.mono hA11.ex (TyX.exN ((ExtN.of i10).trans m11) h1), h2⟩, hT11.ext hA11.ex, fun H12 n12 t12 => ⟨_, rfl, iteF ?_⟩⟩
        obtain ⟨G12, hA12, m12, hT12, _⟩ := hA11.extN n12 t12
        exact ⟨G12, _, rfl, hA12, m11.trans m12, hT12⟩
      · obtain ⟨G11, y14, rfl, hA11, m11, hT11⟩ := hp
        exact ⟨G11, y14, rfl, hA11, (ExtN.of i10).trans m11, hT11⟩
    obtain ⟨G10, y14, rfl, hA10, m10, hT10⟩ := hM
    have hG10 := m10 _ _ hG9 (fun _ => nofun)
    have hws10 := fun u hu => (hws9 u hu).exN m10
    clear hno hA9 hG9 hT9 hws9 m10
    -- many cases
    refine ⟨fun σ H' => ∃ (G' : Hp) (y10 y14 y15 y16 : Option V), σ = [some (.ref a), some (.ref b), some (.ref WL), y3, y4, y5, y6, y7, some (.str z8), y9, y10, y11, y12, some v, y14, y15, y16] ∧ At b G' H' ∧ ExtN G10 G', ?_, fun σ H11 hM => ?_⟩
    · refine ⟨_, rfl, b, 8, G10, rfl, hA10, by decide, by decide, fun d H11 d0 d1 hA11 => ⟨rfl, _, rfl, ?_⟩⟩
      cases hd : decide (V.int d = V.int 0) with
      | false => exact iteF ⟨G10, _, _, _, _, rfl, hA11, ExtN.refl _⟩
      | true =>
        refine iteT ?_
        refine ⟨2000, rfl, by decide, fun pa hpa => ?_⟩
        have hA12 := hA11.new (o := .tup (nvs (alone 2000))) hpa
        have x12 := Ex.new (o := .tup (nvs (alone 2000))) (hA11.nh hpa)
        have g12 := upd_same (H := G10) (a := pa) (o := HO.tup (nvs (alone 2000)))
        generalize upd G10 pa _ = G12 at hA12 x12 g12
        generalize upd H11 pa _ = H12 at hA12 ⊢
        refine ⟨_, rfl, b, 2000, G12, rfl, hA12, by decide, by decide, fun d2 H13 f0 f1 hA13 => ⟨1, d2, rfl, rfl, by show 2 ≤ sizeLine; decide, fun tp htp => ⟨by show 1 ≤ sizeLine; decide, fun lp hlp => ?_⟩⟩⟩
        obtain ⟨m, rfl⟩ := Int.eq_ofNat_of_zero_le f0
        have hm : (1 : Int) + (m : Int) = ((1 + m : Nat) : Int) := by omega
        dsimp only at htp hlp ⊢
        rw [hm] at hlp ⊢
        have hA14 := hA13.new (o := .tup [.int ((1 + m : Nat) : Int), .int 2000]) htp
        have hA15 := hA14.new (o := .lst [.ref tp]) hlp
        have x14 := (Ex.new (o := .tup [.int ((1 + m : Nat) : Int), .int 2000]) (hA13.nh htp)).trans (Ex.new (o := .lst [.ref tp]) (hA14.nh hlp))
        have gt := (Ex.new (o := .lst [.ref tp]) hlp) _ _ (upd_same (H := H13) (a := tp) (o := HO.tup [.int ((1 + m : Nat) : Int), .int 2000]))
        have gl := upd_same (H := upd H13 tp (.tup [.int ((1 + m : Nat) : Int), .int 2000])) (a := lp) (o := HO.lst [.ref tp])
        generalize upd (upd H13 tp _) lp _ = H15 at hA15 gt gl ⊢
        have hin : inN 2000 [(1 + m, 2000)] := fun xy hxy => by
          rw [List.mem_singleton.mp hxy]
          show (1 ≤ 1 + m ∧ 1 + m ≤ 2000) ∧ 1 ≤ 2000 ∧ 2000 ≤ 2000
          omega
        have hprh : Prh H15 [.ref tp] [(1 + m, 2000)] := ⟨rfl, fun i v hv => by
          match i, hv with
          | 0, hv => cases hv; exact ⟨tp, _, rfl, rfl, gt⟩⟩
        refine ⟨2000, pa, lp, alone 2000, _, _, rfl, by decide, st_of (hA15.ex _ _ (x14 _ _ g12)), isP_alone 2000, sq_of gl, hprh.to, hin, fun q2 H16 e16 hq0 hq2 => ?_⟩
        have hP := isP_mrgs (isP_alone 2000) hin
        generalize mrgs (alone 2000) [(1 + m, 2000)] = p at hq2 hP
        obtain ⟨G16, hA16, x16, _, _⟩ := hA15.allF e16
        have hs : ∀ a ∈ p, a ≤ 2000 := fun a ha => hP.most ha
        have hpl := hP.len
        obtain ⟨tx1, tx2, hzl⟩ := wide_tx hP
        refine ⟨⟨_, rfl⟩, _, rfl, q2, rfl, ⟨_, st_of hq2⟩, fun B hB => lc_it (walk_tup (xs := nvs p)) (fun j H' => H16 B = none ∧ Ex H16 H' ∧ H' B = some (.lst ((p.take j).map fun x => V.str (natS x)))) ⟨hB, Ex.new hB, upd_same⟩ (fun j H' _ hp => st_of (hp.2.1 _ _ hq2)) (fun j v H5 H6 hj hp hy => ?_) (fun H17 hp => ?_)⟩
        · obtain ⟨rfl, hv⟩ := hy
          obtain ⟨hB1, xb, hb⟩ := hp
          rw [nvs_len] at hj
          have hxj : p[j]? = some p[j] := List.getElem?_eq_getElem hj
          rw [nvs_get hxj] at hv
          obtain rfl := Option.some.inj hv
          refine ⟨rfl, _, rfl, _, rfl, natS_log (Nat.le_trans (hs _ (List.getElem_mem hj)) (by decide)), _, hb, ?_, hB1, xb.mut hB1, ?_⟩
          · rw [List.length_map, List.length_take]
            exact sz_lt (by omega)
          · rw [upd_same, List.take_add_one, hxj, List.map_append]
            rfl
        obtain ⟨e17, hb⟩ := hp.2
        rw [nvs_len, List.take_length] at hb
        refine ⟨_, B, p.map natS, rfl, rfl, .inl (sq_of (by rw [hb, List.map_map]; rfl)), ?_, ?_⟩
        · have := sumB (l := p.map natS) (c := 4) fun q hq => by
            obtain ⟨x, hx, rfl⟩ := List.mem_map.mp hq
            exact natS_len (Nat.le_trans (hs x hx) (by decide))
          rw [show (Str.ofString " ").length = 1 from rfl, Nat.mul_one]
          rw [List.length_map, hpl] at this ⊢
          omega
        obtain ⟨G17, hA17, x17, _, _⟩ := hA16.allF e17
        have big : 16777216 ≤ sizeLine := by rw [sizeLine_eq]; decide
        have hzl2 := hzl
        rw [Str.length_append, Str.length_append] at hzl2
        refine ⟨_, _, rfl, rfl, by omega, _, _, rfl, rfl, by rw [Str.length_append]; omega, ?_⟩
        generalize Str.ofString "cases 2000\nzz " ++ Txt.join (Str.ofString " ") (p.map natS) ++ Str.ofString "\n" = wide at tx1 tx2 hzl ⊢
        have x1017 := x12.trans (x14.trans (x16.trans x17))
        have hT17 := hT10.ext x1017
        refine ⟨_, rfl, _, rfl, .inr ⟨wide, rfl, tx1⟩, hT17.ext hA17.ex, fun H18 n18 t18 => ⟨_, rfl, iteF ?_⟩⟩
        obtain ⟨G18, hA18, m18, hT18, _⟩ := hA17.extN n18 t18
        refine ⟨_, rfl, _, rfl, _, rfl, by omega, _, _, rfl, rfl, _, rfl, _, rfl, by omega, _, rfl, .inr ⟨_, rfl, tx2⟩, hT18.ext hA18.ex, fun H19 n19 t19 => ⟨_, rfl, iteF ?_⟩⟩
        obtain ⟨G19, hA19, m19, hT19, _⟩ := hA18.extN n19 t19
        exact ⟨G19, _, _, _, _, rfl, hA19, (ExtN.of x1017).trans (m18.trans m19)⟩
    obtain ⟨G11, y10, y14, y15, y16, rfl, hA11, m11⟩ := hM
    have hG11 := hA11.ex _ _ (m11 _ _ hG10 (fun _ => nofun))
    have hws11 := fun u hu => (hws10 u hu).exN (m11.trans (ExtN.of hA11.ex))
    -- still so
    refine ⟨_, rfl, WL, rfl, ⟨_, sq_of hG11⟩, fun E2 hE2 => lc_it (walk_list (xs := [V.ref p0, w1])) (fun i H' => H11 E2 = none ∧ Ex H11 H' ∧ H' E2 = some (.lst ((List.replicate i true).map V.bl))) ⟨hE2, Ex.new hE2, upd_same⟩ (fun _ _ _ hp => sq_of (hp.2.1 _ _ hG11)) (fun i u H2 H3 hi hp hy => ?_) (fun H2 hp => ?_)⟩
    · obtain ⟨rfl, hu⟩ := hy
      obtain ⟨hE0, e2, h2⟩ := hp
      obtain ⟨p, x, n, D, f, ys, rfl, g1, g2, g3, g4⟩ := hws11 u (List.mem_of_getElem? hu)
      refine ⟨p, _, rfl, st_of (e2 _ _ g1), rfl, _, _, rfl, _, _, rfl, _, _, rfl, rfl, rfl, _, rfl, _, rfl, _, rfl, x, D, n, f, ys, rfl, g2.mono e2, g3.mono e2, g4, fun H4 e4 => ⟨_, e4 _ _ h2, ?_, hE0, (e2.trans e4).mut hE0, ?_⟩⟩
      · rw [List.length_map, List.length_replicate]
        have hi : i < 2 := hi
        exact sz_lt (by omega)
      · rw [upd_same, List.replicate_succ', List.map_append]
        rfl
    obtain ⟨hE0, e2, h2⟩ := hp
    exact ⟨E2, List.replicate 2 true, rfl, sq_of h2, q _⟩
end
end Eyes

set_option Elab.async false
set_option linter.all false
set_option maxRecDepth 100000
namespace Eyes
open PySem PySem.Spec PyProof.Rows L2
set_option maxHeartbeats 0 in
theorem txt_mk {K : PySem.W.Frag} {h : Heap} {mg : Str → Option Value} (X : K.In h) (G : h.Ns mainGlobals mg) {z_World : Addr} {z_InvalidName : Addr} {z_InvalidNumber : Addr} {z_InvalidText : Addr} {z_InvalidCircle : Addr} {z_InvalidTie : Addr} {z_InvalidParting : Addr} {z_InvalidCase : Addr} {z_TooMany : Addr} {z_cdA : Addr} {z_tbA : Addr} {t22 : Tok} {t23 : Tok} {t30 : Tok} {t31 : Tok} {f32 : Addr} {oc32 : Value} {od32 : Option Addr} {an32 : Option Addr} {sl32 : Array (Option Value)} {kV32 : Value} {dc32 : Value} {pm32 : Value} {cd32 : Value} {ct32 : Value} {T32 : Addr} {dd32 : Addr} {oT32 : Obj} {nT32 : Nat} {f33 : Addr} {oc33 : Value} {od33 : Option Addr} {an33 : Option Addr} {sl33 : Array (Option Value)} {kV33 : Value} {dc33 : Value} {pm33 : Value} {cd33 : Value} {ct33 : Value} {T33 : Addr} {dd33 : Addr} {oT33 : Obj} {nT33 : Nat} {oE33 : Obj} {nE33 : Nat} {f34 : Addr} {oc34 : Value} {od34 : Option Addr} {an34 : Option Addr} {sl34 : Array (Option Value)} {kV34 : Value} {dc34 : Value} {pm34 : Value} {cd34 : Value} {ct34 : Value} {p34 : Addr} {rs34 : List Value} {f35 : Addr} {oc35 : Value} {od35 : Option Addr} {an35 : Option Addr} {sl35 : Array (Option Value)} {kV35 : Value} {dc35 : Value} {pm35 : Value} {cd35 : Value} {ct35 : Value} {p35 : Addr} {rs35 : List Value} {f36 : Addr} {oc36 : Value} {od36 : Option Addr} {an36 : Option Addr} {sl36 : Array (Option Value)} {kV36 : Value} {dc36 : Value} {pm36 : Value} {cd36 : Value} {ct36 : Value} {f37 : Addr} {oc37 : Value} {od37 : Option Addr} {an37 : Option Addr} {sl37 : Array (Option Value)} {kV37 : Value} {dc37 : Value} {pm37 : Value} {cd37 : Value} {ct37 : Value} {f38 : Addr} {oc38 : Value} {od38 : Option Addr} {an38 : Option Addr} {sl38 : Array (Option Value)} {kV38 : Value} {dc38 : Value} {pm38 : Value} {cd38 : Value} {ct38 : Value} {f39 : Addr} {oc39 : Value} {od39 : Option Addr} {an39 : Option Addr} {sl39 : Array (Option Value)} {kV39 : Value} {dc39 : Value} {pm39 : Value} {cd39 : Value} {ct39 : Value} {f40 : Addr} {oc40 : Value} {od40 : Option Addr} {an40 : Option Addr} {sl40 : Array (Option Value)} {kV40 : Value} {dc40 : Value} {pm40 : Value} {cd40 : Value} {ct40 : Value} {f41 : Addr} {oc41 : Value} {od41 : Option Addr} {an41 : Option Addr} {sl41 : Array (Option Value)} {kV41 : Value} {dc41 : Value} {pm41 : Value} {cd41 : Value} {ct41 : Value} {f42 : Addr} {oc42 : Value} {od42 : Option Addr} {an42 : Option Addr} {sl42 : Array (Option Value)} {kV42 : Value} {dc42 : Value} {pm42 : Value} {cd42 : Value} {ct42 : Value} {f43 : Addr} {oc43 : Value} {od43 : Option Addr} {an43 : Option Addr} {sl43 : Array (Option Value)} {kV43 : Value} {dc43 : Value} {pm43 : Value} {cd43 : Value} {ct43 : Value} {f44 : Addr} {oc44 : Value} {od44 : Option Addr} {an44 : Option Addr} {sl44 : Array (Option Value)} {kV44 : Value} {dc44 : Value} {pm44 : Value} {cd44 : Value} {ct44 : Value} {f45 : Addr} {oc45 : Value} {od45 : Option Addr} {an45 : Option Addr} {sl45 : Array (Option Value)} {kV45 : Value} {dc45 : Value} {pm45 : Value} {cd45 : Value} {ct45 : Value} {f46 : Addr} {oc46 : Value} {od46 : Option Addr} {an46 : Option Addr} {sl46 : Array (Option Value)} {kV46 : Value} {dc46 : Value} {pm46 : Value} {cd46 : Value} {ct46 : Value} {f47 : Addr} {oc47 : Value} {od47 : Option Addr} {an47 : Option Addr} {sl47 : Array (Option Value)} {kV47 : Value} {dc47 : Value} {pm47 : Value} {cd47 : Value} {ct47 : Value} {f48 : Addr} {oc48 : Value} {od48 : Option Addr} {an48 : Option Addr} {sl48 : Array (Option Value)} {kV48 : Value} {dc48 : Value} {pm48 : Value} {cd48 : Value} {ct48 : Value} {f49 : Addr} {oc49 : Value} {od49 : Option Addr} {an49 : Option Addr} {sl49 : Array (Option Value)} {kV49 : Value} {dc49 : Value} {pm49 : Value} {cd49 : Value} {ct49 : Value} {nm49 : Str} {qn49 : Str} {nn49 : Addr} {bs49 : List Value} {bm49 : List Value} {sb49 : List Value} {sn49 : List Str} {ab49 : Bool} {co49 : Option Bool} {dd49 : Option Addr} {k049 : Option Value} {k149 : Option Value} {k249 : Option Value} {k349 : Option Value} {k549 : Option Value} {f51 : Addr} {oc51 : Value} {od51 : Option Addr} {an51 : Option Addr} {sl51 : Array (Option Value)} {kV51 : Value} {dc51 : Value} {pm51 : Value} {cd51 : Value} {ct51 : Value} {nm51 : Str} {qn51 : Str} {nn51 : Addr} {bs51 : List Value} {bm51 : List Value} {sb51 : List Value} {sn51 : List Str} {ab51 : Bool} {co51 : Option Bool} {dd51 : Option Addr} {k051 : Option Value} {k151 : Option Value} {k251 : Option Value} {k351 : Option Value} {k551 : Option Value} {f53 : Addr} {oc53 : Value} {od53 : Option Addr} {an53 : Option Addr} {sl53 : Array (Option Value)} {kV53 : Value} {dc53 : Value} {pm53 : Value} {cd53 : Value} {ct53 : Value} {nm53 : Str} {qn53 : Str} {nn53 : Addr} {bs53 : List Value} {bm53 : List Value} {sb53 : List Value} {sn53 : List Str} {ab53 : Bool} {co53 : Option Bool} {dd53 : Option Addr} {k053 : Option Value} {k153 : Option Value} {k253 : Option Value} {k353 : Option Value} {k553 : Option Value} {f55 : Addr} {oc55 : Value} {od55 : Option Addr} {an55 : Option Addr} {sl55 : Array (Option Value)} {kV55 : Value} {dc55 : Value} {pm55 : Value} {cd55 : Value} {ct55 : Value} {nm55 : Str} {qn55 : Str} {nn55 : Addr} {bs55 : List Value} {bm55 : List Value} {sb55 : List Value} {sn55 : List Str} {ab55 : Bool} {co55 : Option Bool} {dd55 : Option Addr} {k055 : Option Value} {k155 : Option Value} {k255 : Option Value} {k355 : Option Value} {k555 : Option Value} {f57 : Addr} {oc57 : Value} {od57 : Option Addr} {an57 : Option Addr} {sl57 : Array (Option Value)} {kV57 : Value} {dc57 : Value} {pm57 : Value} {cd57 : Value} {ct57 : Value} {nm57 : Str} {qn57 : Str} {nn57 : Addr} {bs57 : List Value} {bm57 : List Value} {sb57 : List Value} {sn57 : List Str} {ab57 : Bool} {co57 : Option Bool} {dd57 : Option Addr} {k057 : Option Value} {k157 : Option Value} {k257 : Option Value} {k357 : Option Value} {k557 : Option Value} {f59 : Addr} {oc59 : Value} {od59 : Option Addr} {an59 : Option Addr} {sl59 : Array (Option Value)} {kV59 : Value} {dc59 : Value} {pm59 : Value} {cd59 : Value} {ct59 : Value} {nm59 : Str} {qn59 : Str} {nn59 : Addr} {bs59 : List Value} {bm59 : List Value} {sb59 : List Value} {sn59 : List Str} {ab59 : Bool} {co59 : Option Bool} {dd59 : Option Addr} {k059 : Option Value} {k159 : Option Value} {k259 : Option Value} {k359 : Option Value} {k559 : Option Value} {f61 : Addr} {oc61 : Value} {od61 : Option Addr} {an61 : Option Addr} {sl61 : Array (Option Value)} {kV61 : Value} {dc61 : Value} {pm61 : Value} {cd61 : Value} {ct61 : Value} {nm61 : Str} {qn61 : Str} {nn61 : Addr} {bs61 : List Value} {bm61 : List Value} {sb61 : List Value} {sn61 : List Str} {ab61 : Bool} {co61 : Option Bool} {dd61 : Option Addr} {k061 : Option Value} {k161 : Option Value} {k261 : Option Value} {k361 : Option Value} {k561 : Option Value} {f63 : Addr} {oc63 : Value} {od63 : Option Addr} {an63 : Option Addr} {sl63 : Array (Option Value)} {kV63 : Value} {dc63 : Value} {pm63 : Value} {cd63 : Value} {ct63 : Value} {nm63 : Str} {qn63 : Str} {nn63 : Addr} {bs63 : List Value} {bm63 : List Value} {sb63 : List Value} {sn63 : List Str} {ab63 : Bool} {co63 : Option Bool} {dd63 : Option Addr} {k063 : Option Value} {k163 : Option Value} {k263 : Option Value} {k363 : Option Value} {k563 : Option Value} {f103 : Addr} {oc103 : Value} {od103 : Option Addr} {an103 : Option Addr} {sl103 : Array (Option Value)} {kV103 : Value} {dc103 : Value} {pm103 : Value} {cd103 : Value} {ct103 : Value} {f104 : Addr} {oc104 : Value} {od104 : Option Addr} {an104 : Option Addr} {sl104 : Array (Option Value)} {kV104 : Value} {dc104 : Value} {pm104 : Value} {cd104 : Value} {ct104 : Value} {f105 : Addr} {oc105 : Value} {od105 : Option Addr} {an105 : Option Addr} {sl105 : Array (Option Value)} {kV105 : Value} {dc105 : Value} {pm105 : Value} {cd105 : Value} {ct105 : Value} {f106 : Addr} {oc106 : Value} {od106 : Option Addr} {an106 : Option Addr} {sl106 : Array (Option Value)} {kV106 : Value} {dc106 : Value} {pm106 : Value} {cd106 : Value} {ct106 : Value} {f107 : Addr} {oc107 : Value} {od107 : Option Addr} {an107 : Option Addr} {sl107 : Array (Option Value)} {kV107 : Value} {dc107 : Value} {pm107 : Value} {cd107 : Value} {ct107 : Value} {f108 : Addr} {oc108 : Value} {od108 : Option Addr} {an108 : Option Addr} {sl108 : Array (Option Value)} {kV108 : Value} {dc108 : Value} {pm108 : Value} {cd108 : Value} {ct108 : Value} {f109 : Addr} {oc109 : Value} {od109 : Option Addr} {an109 : Option Addr} {sl109 : Array (Option Value)} {kV109 : Value} {dc109 : Value} {pm109 : Value} {cd109 : Value} {ct109 : Value} {f110 : Addr} {oc110 : Value} {od110 : Option Addr} {an110 : Option Addr} {sl110 : Array (Option Value)} {kV110 : Value} {dc110 : Value} {pm110 : Value} {cd110 : Value} {ct110 : Value} {f111 : Addr} {oc111 : Value} {od111 : Option Addr} {an111 : Option Addr} {sl111 : Array (Option Value)} {kV111 : Value} {dc111 : Value} {pm111 : Value} {cd111 : Value} {ct111 : Value} {f112 : Addr} {oc112 : Value} {od112 : Option Addr} {an112 : Option Addr} {sl112 : Array (Option Value)} {kV112 : Value} {dc112 : Value} {pm112 : Value} {cd112 : Value} {ct112 : Value} {f113 : Addr} {oc113 : Value} {od113 : Option Addr} {an113 : Option Addr} {sl113 : Array (Option Value)} {kV113 : Value} {dc113 : Value} {pm113 : Value} {cd113 : Value} {ct113 : Value} {f114 : Addr} {oc114 : Value} {od114 : Option Addr} {an114 : Option Addr} {sl114 : Array (Option Value)} {kV114 : Value} {dc114 : Value} {pm114 : Value} {cd114 : Value} {ct114 : Value} {f115 : Addr} {oc115 : Value} {od115 : Option Addr} {an115 : Option Addr} {sl115 : Array (Option Value)} {kV115 : Value} {dc115 : Value} {pm115 : Value} {cd115 : Value} {ct115 : Value} {f116 : Addr} {oc116 : Value} {od116 : Option Addr} {an116 : Option Addr} {sl116 : Array (Option Value)} {kV116 : Value} {dc116 : Value} {pm116 : Value} {cd116 : Value} {ct116 : Value} {f117 : Addr} {oc117 : Value} {od117 : Option Addr} {an117 : Option Addr} {sl117 : Array (Option Value)} {kV117 : Value} {dc117 : Value} {pm117 : Value} {cd117 : Value} {ct117 : Value} {f118 : Addr} {oc118 : Value} {od118 : Option Addr} {an118 : Option Addr} {sl118 : Array (Option Value)} {kV118 : Value} {dc118 : Value} {pm118 : Value} {cd118 : Value} {ct118 : Value} {f119 : Addr} {oc119 : Value} {od119 : Option Addr} {an119 : Option Addr} {sl119 : Array (Option Value)} {kV119 : Value} {dc119 : Value} {pm119 : Value} {cd119 : Value} {ct119 : Value} {f120 : Addr} {oc120 : Value} {od120 : Option Addr} {an120 : Option Addr} {sl120 : Array (Option Value)} {kV120 : Value} {dc120 : Value} {pm120 : Value} {cd120 : Value} {ct120 : Value} {f121 : Addr} {oc121 : Value} {od121 : Option Addr} {an121 : Option Addr} {sl121 : Array (Option Value)} {kV121 : Value} {dc121 : Value} {pm121 : Value} {cd121 : Value} {ct121 : Value} {f122 : Addr} {oc122 : Value} {od122 : Option Addr} {an122 : Option Addr} {sl122 : Array (Option Value)} {kV122 : Value} {dc122 : Value} {pm122 : Value} {cd122 : Value} {ct122 : Value} {f123 : Addr} {oc123 : Value} {od123 : Option Addr} {an123 : Option Addr} {sl123 : Array (Option Value)} {kV123 : Value} {dc123 : Value} {pm123 : Value} {cd123 : Value} {ct123 : Value} {f124 : Addr} {oc124 : Value} {od124 : Option Addr} {an124 : Option Addr} {sl124 : Array (Option Value)} {kV124 : Value} {dc124 : Value} {pm124 : Value} {cd124 : Value} {ct124 : Value} {f125 : Addr} {oc125 : Value} {od125 : Option Addr} {an125 : Option Addr} {sl125 : Array (Option Value)} {kV125 : Value} {dc125 : Value} {pm125 : Value} {cd125 : Value} {ct125 : Value} {f126 : Addr} {oc126 : Value} {od126 : Option Addr} {an126 : Option Addr} {sl126 : Array (Option Value)} {kV126 : Value} {dc126 : Value} {pm126 : Value} {cd126 : Value} {ct126 : Value} {f127 : Addr} {oc127 : Value} {od127 : Option Addr} {an127 : Option Addr} {sl127 : Array (Option Value)} {kV127 : Value} {dc127 : Value} {pm127 : Value} {cd127 : Value} {ct127 : Value} {f128 : Addr} {oc128 : Value} {od128 : Option Addr} {an128 : Option Addr} {sl128 : Array (Option Value)} {kV128 : Value} {dc128 : Value} {pm128 : Value} {cd128 : Value} {ct128 : Value} {f129 : Addr} {oc129 : Value} {od129 : Option Addr} {an129 : Option Addr} {sl129 : Array (Option Value)} {kV129 : Value} {dc129 : Value} {pm129 : Value} {cd129 : Value} {ct129 : Value} {f130 : Addr} {oc130 : Value} {od130 : Option Addr} {an130 : Option Addr} {sl130 : Array (Option Value)} {kV130 : Value} {dc130 : Value} {pm130 : Value} {cd130 : Value} {ct130 : Value} {f131 : Addr} {oc131 : Value} {od131 : Option Addr} {an131 : Option Addr} {sl131 : Array (Option Value)} {kV131 : Value} {dc131 : Value} {pm131 : Value} {cd131 : Value} {ct131 : Value} {f132 : Addr} {oc132 : Value} {od132 : Option Addr} {an132 : Option Addr} {sl132 : Array (Option Value)} {kV132 : Value} {dc132 : Value} {pm132 : Value} {cd132 : Value} {ct132 : Value} {f133 : Addr} {oc133 : Value} {od133 : Option Addr} {an133 : Option Addr} {sl133 : Array (Option Value)} {kV133 : Value} {dc133 : Value} {pm133 : Value} {cd133 : Value} {ct133 : Value} {f134 : Addr} {oc134 : Value} {od134 : Option Addr} {an134 : Option Addr} {sl134 : Array (Option Value)} {kV134 : Value} {dc134 : Value} {pm134 : Value} {cd134 : Value} {ct134 : Value} {f135 : Addr} {oc135 : Value} {od135 : Option Addr} {an135 : Option Addr} {sl135 : Array (Option Value)} {kV135 : Value} {dc135 : Value} {pm135 : Value} {cd135 : Value} {ct135 : Value} {f136 : Addr} {oc136 : Value} {od136 : Option Addr} {an136 : Option Addr} {sl136 : Array (Option Value)} {kV136 : Value} {dc136 : Value} {pm136 : Value} {cd136 : Value} {ct136 : Value} {f137 : Addr} {oc137 : Value} {od137 : Option Addr} {an137 : Option Addr} {sl137 : Array (Option Value)} {kV137 : Value} {dc137 : Value} {pm137 : Value} {cd137 : Value} {ct137 : Value} {f138 : Addr} {oc138 : Value} {od138 : Option Addr} {an138 : Option Addr} {sl138 : Array (Option Value)} {kV138 : Value} {dc138 : Value} {pm138 : Value} {cd138 : Value} {ct138 : Value} {f139 : Addr} {oc139 : Value} {od139 : Option Addr} {an139 : Option Addr} {sl139 : Array (Option Value)} {kV139 : Value} {dc139 : Value} {pm139 : Value} {cd139 : Value} {ct139 : Value} {f140 : Addr} {oc140 : Value} {od140 : Option Addr} {an140 : Option Addr} {sl140 : Array (Option Value)} {kV140 : Value} {dc140 : Value} {pm140 : Value} {cd140 : Value} {ct140 : Value} {f141 : Addr} {oc141 : Value} {od141 : Option Addr} {an141 : Option Addr} {sl141 : Array (Option Value)} {kV141 : Value} {dc141 : Value} {pm141 : Value} {cd141 : Value} {ct141 : Value} {f142 : Addr} {oc142 : Value} {od142 : Option Addr} {an142 : Option Addr} {sl142 : Array (Option Value)} {kV142 : Value} {dc142 : Value} {pm142 : Value} {cd142 : Value} {ct142 : Value} {f143 : Addr} {oc143 : Value} {od143 : Option Addr} {an143 : Option Addr} {sl143 : Array (Option Value)} {kV143 : Value} {dc143 : Value} {pm143 : Value} {cd143 : Value} {ct143 : Value} {f144 : Addr} {oc144 : Value} {od144 : Option Addr} {an144 : Option Addr} {sl144 : Array (Option Value)} {kV144 : Value} {dc144 : Value} {pm144 : Value} {cd144 : Value} {ct144 : Value} {f145 : Addr} {oc145 : Value} {od145 : Option Addr} {an145 : Option Addr} {sl145 : Array (Option Value)} {kV145 : Value} {dc145 : Value} {pm145 : Value} {cd145 : Value} {ct145 : Value} {f146 : Addr} {oc146 : Value} {od146 : Option Addr} {an146 : Option Addr} {sl146 : Array (Option Value)} {kV146 : Value} {dc146 : Value} {pm146 : Value} {cd146 : Value} {ct146 : Value} {f147 : Addr} {oc147 : Value} {od147 : Option Addr} {an147 : Option Addr} {sl147 : Array (Option Value)} {kV147 : Value} {dc147 : Value} {pm147 : Value} {ct147 : Value} {f148 : Addr} {oc148 : Value} {od148 : Option Addr} {an148 : Option Addr} {sl148 : Array (Option Value)} {kV148 : Value} {dc148 : Value} {pm148 : Value} {cd148 : Value} {ct148 : Value} {f149 : Addr} {oc149 : Value} {od149 : Option Addr} {an149 : Option Addr} {sl149 : Array (Option Value)} {kV149 : Value} {dc149 : Value} {pm149 : Value} {cd149 : Value} {ct149 : Value} {f150 : Addr} {oc150 : Value} {od150 : Option Addr} {an150 : Option Addr} {sl150 : Array (Option Value)} {kV150 : Value} {dc150 : Value} {pm150 : Value} {cd150 : Value} {ct150 : Value} {o151 : Obj} {vs151 : Array Value} {fi151 : Str} {tf151 : Tok} {fl151 : Int} {tg151 : Tok} {nf151 : Bool} {tx151 : Int} {tt151 : Tok}
    (h1 : PySem.W.nsIn K mainGlobals "isinstance" = some none)
    (h2 : PySem.W.nsIn K mainGlobals "str" = some none)
    (h3 : PySem.W.nsIn K mainGlobals "len" = some none)
    (h4 : PySem.W.nsIn K mainGlobals "all" = some none)
    (h5 : PySem.W.nsIn K mainGlobals "bool" = some none)
    (h6 : PySem.W.nsIn K mainGlobals "int" = some none)
    (h7 : PySem.W.nsIn K mainGlobals "tuple" = some none)
    (h8 : PySem.W.nsIn K mainGlobals "range" = some none)
    (h9 : PySem.W.nsIn K mainGlobals "list" = some none)
    (h10 : PySem.W.nsIn K mainGlobals "max" = some none)
    (h11 : PySem.W.nsIn K mainGlobals "min" = some none)
    (h12 : PySem.W.nsIn K mainGlobals "enumerate" = some none)
    (h13 : PySem.W.nsIn K mainGlobals "zip" = some none)
    (h14 : PySem.W.nsIn K mainGlobals "sorted" = some none)
    (h15 : PySem.W.nsIn K mainGlobals "dict" = some none)
    (h16 : PySem.W.nsIn K mainGlobals "NotImplemented" = some none)
    (h17 : PySem.W.nsIn K mainGlobals "staticmethod" = some none)
    (h18 : PySem.W.nsIn K mainGlobals "abs" = some none)
    (h19 : PySem.W.nsIn K mainGlobals "set" = some none)
    (h20 : PySem.W.nsIn K mainGlobals "repr" = some none)
    (h21 : PySem.W.nsIn K mainGlobals "ValueError" = some none)
    (h22 : PySem.W.nsIn K mainGlobals "LookupError" = some none)
    (h23 : PySem.W.nsIn K mainGlobals "LETTERS" = some (some (.str "abcdefghijklmnopqrstuvwxyz" t22)))
    (h24 : PySem.W.nsIn K mainGlobals "MOST_LETTERS" = some (some (.int 6 t23)))
    (h25 : PySem.W.nsIn K mainGlobals "World" = some (some (.ref z_World)))
    (h26 : PySem.W.plainGet K z_World Str.empty = true)
    (h27 : PySem.W.hasDictIn K z_World = true)
    (h28 : PySem.W.plainOver K z_World = true)
    (h29 : PySem.W.findIn K (.ref z_World) "__setattr__" = some (some (.builtin "object.__setattr__")))
    (h30 : PySem.W.findIn K (.ref z_World) "__class__" = some (some (.builtin "object.__class__")))
    (h31 : PySem.W.specialIn K (.builtin "object.__class__") "__get__" = some (some (.builtin "getset_descriptor.__get__")))
    (h32 : PySem.W.takesIn K (.builtin "object.__class__") = some true)
    (h33 : PySem.W.mroIn K z_World (.type "object") = some true)
    (h34 : PySem.W.subIn K (.ref z_World) (.type "str") = some false)
    (h35 : PySem.W.subIn K (.ref z_World) (.type "int") = some false)
    (h36 : PySem.W.subIn K (.ref z_World) (.type "bool") = some false)
    (h37 : PySem.W.subIn K (.ref z_World) (.type "list") = some false)
    (h38 : PySem.W.subIn K (.ref z_World) (.type "tuple") = some false)
    (h39 : PySem.W.subIn K (.ref z_World) (.type "dict") = some false)
    (h40 : PySem.W.selfFirst K z_World = true)
    (h41 : PySem.W.findIn K (.ref z_World) "many" = some none)
    (h42 : PySem.W.findIn K (.ref z_World) "_partings" = some none)
    (h43 : PySem.W.readsIn K z_World (.type "type") = true)
    (h44 : PySem.W.specialIn K (.ref z_World) "__getattribute__" = some (some (.builtin "type.__getattribute__")))
    (h45 : PySem.W.findCls K (.ref z_World) (.type "type") "LIMIT" = some (.val (.int 2400 t30)))
    (h46 : PySem.W.findIn K (.ref z_World) "LIMIT" = some (some (.int 2400 t31)))
    (h47 : PySem.W.specialIn K (.int 2400 t31) "__get__" = some none)
    (h48 : PySem.W.makesIn K z_World = true)
    (h49 : PySem.W.keepIn K (.ref z_World) = true)
    (h50 : PySem.W.findIn K (.ref z_World) "__init__" = some (some (.ref f32)))
    (h51 : PySem.W.isFn K (.ref f32) = true)
    (h52 : K.lookup f32 = some ⟨oc32, od32, .func (PySem.W.fnOf "__init__" "World.__init__" (defArgs s_World___init) (defBody s_World___init) (defScope s_World___init) (.ref T32) kV32 dc32 pm32 an32 cd32 ct32), sl32⟩)
    (h53 : PySem.W.codeIn K cd32 "World.__init__" = true)
    (h54 : PySem.W.keepIn K (.ref f32) = true)
    (h55 : K.lookup T32 = some oT32)
    (h56 : (oT32).data = .seq #[.ref dd32] nT32)
    (h57 : PySem.W.makesIn K z_World = true)
    (h58 : PySem.W.keepIn K (.ref z_World) = true)
    (h59 : PySem.W.findIn K (.ref z_World) "__init__" = some (some (.ref f33)))
    (h60 : PySem.W.isFn K (.ref f33) = true)
    (h61 : K.lookup f33 = some ⟨oc33, od33, .func (PySem.W.fnOf "__init__" "World.__init__" (defArgs s_World___init) (defBody s_World___init) (defScope s_World___init) (.ref T33) kV33 dc33 pm33 an33 cd33 ct33), sl33⟩)
    (h62 : PySem.W.codeIn K cd33 "World.__init__" = true)
    (h63 : PySem.W.keepIn K (.ref f33) = true)
    (h64 : K.lookup T33 = some oT33)
    (h65 : (oT33).data = .seq #[.ref dd33] nT33)
    (h66 : K.lookup dd33 = some oE33)
    (h67 : (oE33).cls = .type "tuple")
    (h68 : (oE33).data = .seq #[] nE33)
    (h69 : PySem.W.readsIn K z_World (.type "type") = true)
    (h70 : PySem.W.specialIn K (.ref z_World) "__getattribute__" = some (some (.builtin "type.__getattribute__")))
    (h71 : PySem.W.findCls K (.ref z_World) (.type "type") "parted" = some (.get (.builtin "staticmethod.__get__") (.ref p34) .none (.ref z_World)))
    (h72 : PySem.W.recIn K p34 "staticmethod" = some (.ref f34 :: rs34))
    (h73 : K.lookup f34 = some ⟨oc34, od34, .func (PySem.W.fnOf "parted" "World.parted" (defArgs s_World_parted) (defBody s_World_parted) (defScope s_World_parted) .none kV34 dc34 pm34 an34 cd34 ct34), sl34⟩)
    (h74 : PySem.W.codeIn K cd34 "World.parted" = true)
    (h75 : PySem.W.keepIn K (.ref f34) = true)
    (h76 : PySem.W.readsIn K z_World (.type "type") = true)
    (h77 : PySem.W.specialIn K (.ref z_World) "__getattribute__" = some (some (.builtin "type.__getattribute__")))
    (h78 : PySem.W.findCls K (.ref z_World) (.type "type") "read" = some (.get (.builtin "staticmethod.__get__") (.ref p35) .none (.ref z_World)))
    (h79 : PySem.W.recIn K p35 "staticmethod" = some (.ref f35 :: rs35))
    (h80 : K.lookup f35 = some ⟨oc35, od35, .func (PySem.W.fnOf "read" "World.read" (defArgs s_World_read) (defBody s_World_read) (defScope s_World_read) .none kV35 dc35 pm35 an35 cd35 ct35), sl35⟩)
    (h81 : PySem.W.codeIn K cd35 "World.read" = true)
    (h82 : PySem.W.keepIn K (.ref f35) = true)
    (h83 : PySem.W.findIn K (.ref z_World) "eyes" = some (some (.ref f36)))
    (h84 : PySem.W.isFn K (.ref f36) = true)
    (h85 : K.lookup f36 = some ⟨oc36, od36, .func (PySem.W.fnOf "eyes" "World.eyes" (defArgs s_World_eyes) (defBody s_World_eyes) (defScope s_World_eyes) .none kV36 dc36 pm36 an36 cd36 ct36), sl36⟩)
    (h86 : PySem.W.codeIn K cd36 "World.eyes" = true)
    (h87 : PySem.W.keepIn K (.ref f36) = true)
    (h88 : PySem.W.findIn K (.ref z_World) "partings" = some (some (.ref f37)))
    (h89 : PySem.W.isFn K (.ref f37) = true)
    (h90 : K.lookup f37 = some ⟨oc37, od37, .func (PySem.W.fnOf "partings" "World.partings" (defArgs s_World_partings) (defBody s_World_partings) (defScope s_World_partings) .none kV37 dc37 pm37 an37 cd37 ct37), sl37⟩)
    (h91 : PySem.W.codeIn K cd37 "World.partings" = true)
    (h92 : PySem.W.keepIn K (.ref f37) = true)
    (h93 : PySem.W.findIn K (.ref z_World) "parting_named" = some (some (.ref f38)))
    (h94 : PySem.W.isFn K (.ref f38) = true)
    (h95 : K.lookup f38 = some ⟨oc38, od38, .func (PySem.W.fnOf "parting_named" "World.parting_named" (defArgs s_World_parting_named) (defBody s_World_parting_named) (defScope s_World_parting_named) .none kV38 dc38 pm38 an38 cd38 ct38), sl38⟩)
    (h96 : PySem.W.codeIn K cd38 "World.parting_named" = true)
    (h97 : PySem.W.keepIn K (.ref f38) = true)
    (h98 : PySem.W.findIn K (.ref z_World) "parting" = some (some (.ref f39)))
    (h99 : PySem.W.isFn K (.ref f39) = true)
    (h100 : K.lookup f39 = some ⟨oc39, od39, .func (PySem.W.fnOf "parting" "World.parting" (defArgs s_World_parting) (defBody s_World_parting) (defScope s_World_parting) .none kV39 dc39 pm39 an39 cd39 ct39), sl39⟩)
    (h101 : PySem.W.codeIn K cd39 "World.parting" = true)
    (h102 : PySem.W.keepIn K (.ref f39) = true)
    (h103 : PySem.W.findIn K (.ref z_World) "alike" = some (some (.ref f40)))
    (h104 : PySem.W.isFn K (.ref f40) = true)
    (h105 : K.lookup f40 = some ⟨oc40, od40, .func (PySem.W.fnOf "alike" "World.alike" (defArgs s_World_alike) (defBody s_World_alike) (defScope s_World_alike) .none kV40 dc40 pm40 an40 cd40 ct40), sl40⟩)
    (h106 : PySem.W.codeIn K cd40 "World.alike" = true)
    (h107 : PySem.W.keepIn K (.ref f40) = true)
    (h108 : PySem.W.findIn K (.ref z_World) "tells" = some (some (.ref f41)))
    (h109 : PySem.W.isFn K (.ref f41) = true)
    (h110 : K.lookup f41 = some ⟨oc41, od41, .func (PySem.W.fnOf "tells" "World.tells" (defArgs s_World_tells) (defBody s_World_tells) (defScope s_World_tells) .none kV41 dc41 pm41 an41 cd41 ct41), sl41⟩)
    (h111 : PySem.W.codeIn K cd41 "World.tells" = true)
    (h112 : PySem.W.keepIn K (.ref f41) = true)
    (h113 : PySem.W.findIn K (.ref z_World) "kept_to" = some (some (.ref f42)))
    (h114 : PySem.W.isFn K (.ref f42) = true)
    (h115 : K.lookup f42 = some ⟨oc42, od42, .func (PySem.W.fnOf "kept_to" "World.kept_to" (defArgs s_World_kept_to) (defBody s_World_kept_to) (defScope s_World_kept_to) .none kV42 dc42 pm42 an42 cd42 ct42), sl42⟩)
    (h116 : PySem.W.codeIn K cd42 "World.kept_to" = true)
    (h117 : PySem.W.keepIn K (.ref f42) = true)
    (h118 : PySem.W.findIn K (.ref z_World) "text" = some (some (.ref f43)))
    (h119 : PySem.W.isFn K (.ref f43) = true)
    (h120 : K.lookup f43 = some ⟨oc43, od43, .func (PySem.W.fnOf "text" "World.text" (defArgs s_World_text) (defBody s_World_text) (defScope s_World_text) .none kV43 dc43 pm43 an43 cd43 ct43), sl43⟩)
    (h121 : PySem.W.codeIn K cd43 "World.text" = true)
    (h122 : PySem.W.keepIn K (.ref f43) = true)
    (h123 : PySem.W.findIn K (.ref z_World) "__add__" = some (some (.ref f44)))
    (h124 : PySem.W.isFn K (.ref f44) = true)
    (h125 : K.lookup f44 = some ⟨oc44, od44, .func (PySem.W.fnOf "__add__" "World.__add__" (defArgs s_World___add) (defBody s_World___add) (defScope s_World___add) .none kV44 dc44 pm44 an44 cd44 ct44), sl44⟩)
    (h126 : PySem.W.codeIn K cd44 "World.__add__" = true)
    (h127 : PySem.W.keepIn K (.ref f44) = true)
    (h128 : PySem.W.findIn K (.ref z_World) "__eq__" = some (some (.ref f45)))
    (h129 : PySem.W.isFn K (.ref f45) = true)
    (h130 : K.lookup f45 = some ⟨oc45, od45, .func (PySem.W.fnOf "__eq__" "World.__eq__" (defArgs s_World___eq) (defBody s_World___eq) (defScope s_World___eq) .none kV45 dc45 pm45 an45 cd45 ct45), sl45⟩)
    (h131 : PySem.W.codeIn K cd45 "World.__eq__" = true)
    (h132 : PySem.W.keepIn K (.ref f45) = true)
    (h133 : PySem.W.findIn K (.ref z_World) "__len__" = some (some (.ref f46)))
    (h134 : PySem.W.isFn K (.ref f46) = true)
    (h135 : K.lookup f46 = some ⟨oc46, od46, .func (PySem.W.fnOf "__len__" "World.__len__" (defArgs s_World___len) (defBody s_World___len) (defScope s_World___len) .none kV46 dc46 pm46 an46 cd46 ct46), sl46⟩)
    (h136 : PySem.W.codeIn K cd46 "World.__len__" = true)
    (h137 : PySem.W.keepIn K (.ref f46) = true)
    (h138 : PySem.W.findIn K (.ref z_World) "__str__" = some (some (.ref f47)))
    (h139 : PySem.W.isFn K (.ref f47) = true)
    (h140 : K.lookup f47 = some ⟨oc47, od47, .func (PySem.W.fnOf "__str__" "World.__str__" (defArgs s_World___str) (defBody s_World___str) (defScope s_World___str) .none kV47 dc47 pm47 an47 cd47 ct47), sl47⟩)
    (h141 : PySem.W.codeIn K cd47 "World.__str__" = true)
    (h142 : PySem.W.keepIn K (.ref f47) = true)
    (h143 : PySem.W.findIn K (.ref z_World) "__repr__" = some (some (.ref f48)))
    (h144 : PySem.W.isFn K (.ref f48) = true)
    (h145 : K.lookup f48 = some ⟨oc48, od48, .func (PySem.W.fnOf "__repr__" "World.__repr__" (defArgs s_World___repr) (defBody s_World___repr) (defScope s_World___repr) .none kV48 dc48 pm48 an48 cd48 ct48), sl48⟩)
    (h146 : PySem.W.codeIn K cd48 "World.__repr__" = true)
    (h147 : PySem.W.keepIn K (.ref f48) = true)
    (h148 : PySem.W.nsIn K mainGlobals "InvalidName" = some (some (.ref z_InvalidName)))
    (h149 : K.lookup z_InvalidName = some (excClassObj nm49 qn49 z_InvalidName nn49 bs49 bm49 true sn49 sb49 ab49 co49 dd49 k049 k149 k249 k349 k549 "ValueError.__new__"))
    (h150 : PySem.HandSPX.refsVE bm49 = true)
    (h151 : PySem.W.findIn K (.ref z_InvalidName) "__setattr__" = some (some (.builtin "object.__setattr__")))
    (h152 : PySem.W.subIn K (.ref z_InvalidName) (.type "BaseException") = some true)
    (h153 : PySem.W.typeIn K (.ref z_InvalidName) = some (.type "type"))
    (h154 : PySem.W.keepIn K (.ref z_InvalidName) = true)
    (h155 : xfB K z_InvalidName = true)
    (h156 : PySem.W.findIn K (.ref z_InvalidName) "__init__" = some (some (.ref f49)))
    (h157 : PySem.W.typeIn K (.ref f49) = some (.type "function"))
    (h158 : K.lookup f49 = some ⟨oc49, od49, .func (PySem.W.fnOf "__init__" "InvalidName.__init__" (defArgs s_InvalidName___init) (defBody s_InvalidName___init) (defScope s_InvalidName___init) .none kV49 dc49 pm49 an49 cd49 ct49), sl49⟩)
    (h159 : PySem.W.codeIn K cd49 "InvalidName.__init__" = true)
    (h160 : PySem.W.keepIn K (.ref f49) = true)
    (h161 : PySem.W.findIn K (.ref z_InvalidName) "value" = some none)
    (h162 : PySem.W.nsIn K mainGlobals "InvalidNumber" = some (some (.ref z_InvalidNumber)))
    (h163 : K.lookup z_InvalidNumber = some (excClassObj nm51 qn51 z_InvalidNumber nn51 bs51 bm51 true sn51 sb51 ab51 co51 dd51 k051 k151 k251 k351 k551 "ValueError.__new__"))
    (h164 : PySem.HandSPX.refsVE bm51 = true)
    (h165 : PySem.W.findIn K (.ref z_InvalidNumber) "__setattr__" = some (some (.builtin "object.__setattr__")))
    (h166 : PySem.W.subIn K (.ref z_InvalidNumber) (.type "BaseException") = some true)
    (h167 : PySem.W.typeIn K (.ref z_InvalidNumber) = some (.type "type"))
    (h168 : PySem.W.keepIn K (.ref z_InvalidNumber) = true)
    (h169 : xfB K z_InvalidNumber = true)
    (h170 : PySem.W.findIn K (.ref z_InvalidNumber) "__init__" = some (some (.ref f51)))
    (h171 : PySem.W.typeIn K (.ref f51) = some (.type "function"))
    (h172 : K.lookup f51 = some ⟨oc51, od51, .func (PySem.W.fnOf "__init__" "InvalidNumber.__init__" (defArgs s_InvalidNumber___init) (defBody s_InvalidNumber___init) (defScope s_InvalidNumber___init) .none kV51 dc51 pm51 an51 cd51 ct51), sl51⟩)
    (h173 : PySem.W.codeIn K cd51 "InvalidNumber.__init__" = true)
    (h174 : PySem.W.keepIn K (.ref f51) = true)
    (h175 : PySem.W.findIn K (.ref z_InvalidNumber) "value" = some none)
    (h176 : PySem.W.nsIn K mainGlobals "InvalidText" = some (some (.ref z_InvalidText)))
    (h177 : K.lookup z_InvalidText = some (excClassObj nm53 qn53 z_InvalidText nn53 bs53 bm53 true sn53 sb53 ab53 co53 dd53 k053 k153 k253 k353 k553 "ValueError.__new__"))
    (h178 : PySem.HandSPX.refsVE bm53 = true)
    (h179 : PySem.W.findIn K (.ref z_InvalidText) "__setattr__" = some (some (.builtin "object.__setattr__")))
    (h180 : PySem.W.subIn K (.ref z_InvalidText) (.type "BaseException") = some true)
    (h181 : PySem.W.typeIn K (.ref z_InvalidText) = some (.type "type"))
    (h182 : PySem.W.keepIn K (.ref z_InvalidText) = true)
    (h183 : xfB K z_InvalidText = true)
    (h184 : PySem.W.findIn K (.ref z_InvalidText) "__init__" = some (some (.ref f53)))
    (h185 : PySem.W.typeIn K (.ref f53) = some (.type "function"))
    (h186 : K.lookup f53 = some ⟨oc53, od53, .func (PySem.W.fnOf "__init__" "InvalidText.__init__" (defArgs s_InvalidText___init) (defBody s_InvalidText___init) (defScope s_InvalidText___init) .none kV53 dc53 pm53 an53 cd53 ct53), sl53⟩)
    (h187 : PySem.W.codeIn K cd53 "InvalidText.__init__" = true)
    (h188 : PySem.W.keepIn K (.ref f53) = true)
    (h189 : PySem.W.findIn K (.ref z_InvalidText) "at" = some none)
    (h190 : PySem.W.nsIn K mainGlobals "InvalidCircle" = some (some (.ref z_InvalidCircle)))
    (h191 : K.lookup z_InvalidCircle = some (excClassObj nm55 qn55 z_InvalidCircle nn55 bs55 bm55 true sn55 sb55 ab55 co55 dd55 k055 k155 k255 k355 k555 "ValueError.__new__"))
    (h192 : PySem.HandSPX.refsVE bm55 = true)
    (h193 : PySem.W.findIn K (.ref z_InvalidCircle) "__setattr__" = some (some (.builtin "object.__setattr__")))
    (h194 : PySem.W.subIn K (.ref z_InvalidCircle) (.type "BaseException") = some true)
    (h195 : PySem.W.typeIn K (.ref z_InvalidCircle) = some (.type "type"))
    (h196 : PySem.W.keepIn K (.ref z_InvalidCircle) = true)
    (h197 : xfB K z_InvalidCircle = true)
    (h198 : PySem.W.findIn K (.ref z_InvalidCircle) "__init__" = some (some (.ref f55)))
    (h199 : PySem.W.typeIn K (.ref f55) = some (.type "function"))
    (h200 : K.lookup f55 = some ⟨oc55, od55, .func (PySem.W.fnOf "__init__" "InvalidCircle.__init__" (defArgs s_InvalidCircle___init) (defBody s_InvalidCircle___init) (defScope s_InvalidCircle___init) .none kV55 dc55 pm55 an55 cd55 ct55), sl55⟩)
    (h201 : PySem.W.codeIn K cd55 "InvalidCircle.__init__" = true)
    (h202 : PySem.W.keepIn K (.ref f55) = true)
    (h203 : PySem.W.findIn K (.ref z_InvalidCircle) "at" = some none)
    (h204 : PySem.W.nsIn K mainGlobals "InvalidTie" = some (some (.ref z_InvalidTie)))
    (h205 : K.lookup z_InvalidTie = some (excClassObj nm57 qn57 z_InvalidTie nn57 bs57 bm57 true sn57 sb57 ab57 co57 dd57 k057 k157 k257 k357 k557 "ValueError.__new__"))
    (h206 : PySem.HandSPX.refsVE bm57 = true)
    (h207 : PySem.W.findIn K (.ref z_InvalidTie) "__setattr__" = some (some (.builtin "object.__setattr__")))
    (h208 : PySem.W.subIn K (.ref z_InvalidTie) (.type "BaseException") = some true)
    (h209 : PySem.W.typeIn K (.ref z_InvalidTie) = some (.type "type"))
    (h210 : PySem.W.keepIn K (.ref z_InvalidTie) = true)
    (h211 : xfB K z_InvalidTie = true)
    (h212 : PySem.W.findIn K (.ref z_InvalidTie) "__init__" = some (some (.ref f57)))
    (h213 : PySem.W.typeIn K (.ref f57) = some (.type "function"))
    (h214 : K.lookup f57 = some ⟨oc57, od57, .func (PySem.W.fnOf "__init__" "InvalidTie.__init__" (defArgs s_InvalidTie___init) (defBody s_InvalidTie___init) (defScope s_InvalidTie___init) .none kV57 dc57 pm57 an57 cd57 ct57), sl57⟩)
    (h215 : PySem.W.codeIn K cd57 "InvalidTie.__init__" = true)
    (h216 : PySem.W.keepIn K (.ref f57) = true)
    (h217 : PySem.W.findIn K (.ref z_InvalidTie) "at" = some none)
    (h218 : PySem.W.nsIn K mainGlobals "InvalidParting" = some (some (.ref z_InvalidParting)))
    (h219 : K.lookup z_InvalidParting = some (excClassObj nm59 qn59 z_InvalidParting nn59 bs59 bm59 true sn59 sb59 ab59 co59 dd59 k059 k159 k259 k359 k559 "ValueError.__new__"))
    (h220 : PySem.HandSPX.refsVE bm59 = true)
    (h221 : PySem.W.findIn K (.ref z_InvalidParting) "__setattr__" = some (some (.builtin "object.__setattr__")))
    (h222 : PySem.W.subIn K (.ref z_InvalidParting) (.type "BaseException") = some true)
    (h223 : PySem.W.typeIn K (.ref z_InvalidParting) = some (.type "type"))
    (h224 : PySem.W.keepIn K (.ref z_InvalidParting) = true)
    (h225 : xfB K z_InvalidParting = true)
    (h226 : PySem.W.findIn K (.ref z_InvalidParting) "__init__" = some (some (.ref f59)))
    (h227 : PySem.W.typeIn K (.ref f59) = some (.type "function"))
    (h228 : K.lookup f59 = some ⟨oc59, od59, .func (PySem.W.fnOf "__init__" "InvalidParting.__init__" (defArgs s_InvalidParting___init) (defBody s_InvalidParting___init) (defScope s_InvalidParting___init) .none kV59 dc59 pm59 an59 cd59 ct59), sl59⟩)
    (h229 : PySem.W.codeIn K cd59 "InvalidParting.__init__" = true)
    (h230 : PySem.W.keepIn K (.ref f59) = true)
    (h231 : PySem.W.findIn K (.ref z_InvalidParting) "value" = some none)
    (h232 : PySem.W.nsIn K mainGlobals "InvalidCase" = some (some (.ref z_InvalidCase)))
    (h233 : K.lookup z_InvalidCase = some (excClassObj nm61 qn61 z_InvalidCase nn61 bs61 bm61 true sn61 sb61 ab61 co61 dd61 k061 k161 k261 k361 k561 "ValueError.__new__"))
    (h234 : PySem.HandSPX.refsVE bm61 = true)
    (h235 : PySem.W.findIn K (.ref z_InvalidCase) "__setattr__" = some (some (.builtin "object.__setattr__")))
    (h236 : PySem.W.subIn K (.ref z_InvalidCase) (.type "BaseException") = some true)
    (h237 : PySem.W.typeIn K (.ref z_InvalidCase) = some (.type "type"))
    (h238 : PySem.W.keepIn K (.ref z_InvalidCase) = true)
    (h239 : xfB K z_InvalidCase = true)
    (h240 : PySem.W.findIn K (.ref z_InvalidCase) "__init__" = some (some (.ref f61)))
    (h241 : PySem.W.typeIn K (.ref f61) = some (.type "function"))
    (h242 : K.lookup f61 = some ⟨oc61, od61, .func (PySem.W.fnOf "__init__" "InvalidCase.__init__" (defArgs s_InvalidCase___init) (defBody s_InvalidCase___init) (defScope s_InvalidCase___init) .none kV61 dc61 pm61 an61 cd61 ct61), sl61⟩)
    (h243 : PySem.W.codeIn K cd61 "InvalidCase.__init__" = true)
    (h244 : PySem.W.keepIn K (.ref f61) = true)
    (h245 : PySem.W.findIn K (.ref z_InvalidCase) "value" = some none)
    (h246 : PySem.W.nsIn K mainGlobals "TooMany" = some (some (.ref z_TooMany)))
    (h247 : K.lookup z_TooMany = some (excClassObj nm63 qn63 z_TooMany nn63 bs63 bm63 true sn63 sb63 ab63 co63 dd63 k063 k163 k263 k363 k563 "ValueError.__new__"))
    (h248 : PySem.HandSPX.refsVE bm63 = true)
    (h249 : PySem.W.findIn K (.ref z_TooMany) "__setattr__" = some (some (.builtin "object.__setattr__")))
    (h250 : PySem.W.subIn K (.ref z_TooMany) (.type "BaseException") = some true)
    (h251 : PySem.W.typeIn K (.ref z_TooMany) = some (.type "type"))
    (h252 : PySem.W.keepIn K (.ref z_TooMany) = true)
    (h253 : xfB K z_TooMany = true)
    (h254 : PySem.W.findIn K (.ref z_TooMany) "__init__" = some (some (.ref f63)))
    (h255 : PySem.W.typeIn K (.ref f63) = some (.type "function"))
    (h256 : K.lookup f63 = some ⟨oc63, od63, .func (PySem.W.fnOf "__init__" "TooMany.__init__" (defArgs s_TooMany___init) (defBody s_TooMany___init) (defScope s_TooMany___init) .none kV63 dc63 pm63 an63 cd63 ct63), sl63⟩)
    (h257 : PySem.W.codeIn K cd63 "TooMany.__init__" = true)
    (h258 : PySem.W.keepIn K (.ref f63) = true)
    (h259 : PySem.W.findIn K (.ref z_TooMany) "what" = some none)
    (h260 : PySem.W.findIn K (.ref z_TooMany) "most" = some none)
    (h261 : PySem.W.exmOne K (.ref z_InvalidName) (.ref z_InvalidName) = some true)
    (h262 : PySem.W.exmOne K (.ref z_InvalidCircle) (.ref z_InvalidName) = some false)
    (h263 : PySem.W.exmOne K (.ref z_InvalidCircle) (.ref z_InvalidNumber) = some false)
    (h264 : PySem.W.exmOne K (.ref z_InvalidCircle) (.ref z_InvalidText) = some false)
    (h265 : PySem.W.exmOne K (.ref z_InvalidCircle) (.ref z_InvalidCircle) = some true)
    (h266 : PySem.W.exmOne K (.ref z_InvalidNumber) (.ref z_InvalidName) = some false)
    (h267 : PySem.W.exmOne K (.ref z_InvalidNumber) (.ref z_InvalidNumber) = some true)
    (h268 : PySem.W.exmOne K (.ref z_InvalidTie) (.ref z_InvalidName) = some false)
    (h269 : PySem.W.exmOne K (.ref z_InvalidTie) (.ref z_InvalidNumber) = some false)
    (h270 : PySem.W.exmOne K (.ref z_InvalidTie) (.ref z_InvalidText) = some false)
    (h271 : PySem.W.exmOne K (.ref z_InvalidTie) (.ref z_InvalidCircle) = some false)
    (h272 : PySem.W.exmOne K (.ref z_InvalidTie) (.ref z_InvalidTie) = some true)
    (h273 : PySem.W.exmOne K (.ref z_InvalidParting) (.ref z_InvalidName) = some false)
    (h274 : PySem.W.exmOne K (.ref z_InvalidParting) (.ref z_InvalidNumber) = some false)
    (h275 : PySem.W.exmOne K (.ref z_InvalidParting) (.ref z_InvalidText) = some false)
    (h276 : PySem.W.exmOne K (.ref z_InvalidParting) (.ref z_InvalidCircle) = some false)
    (h277 : PySem.W.exmOne K (.ref z_InvalidParting) (.ref z_InvalidTie) = some false)
    (h278 : PySem.W.exmOne K (.ref z_InvalidParting) (.ref z_InvalidParting) = some true)
    (h279 : PySem.W.exmOne K (.ref z_TooMany) (.ref z_InvalidName) = some false)
    (h280 : PySem.W.exmOne K (.ref z_TooMany) (.ref z_InvalidNumber) = some false)
    (h281 : PySem.W.exmOne K (.ref z_TooMany) (.ref z_InvalidText) = some false)
    (h282 : PySem.W.exmOne K (.ref z_TooMany) (.ref z_InvalidCircle) = some false)
    (h283 : PySem.W.exmOne K (.ref z_TooMany) (.ref z_InvalidTie) = some false)
    (h284 : PySem.W.exmOne K (.ref z_TooMany) (.ref z_InvalidParting) = some false)
    (h285 : PySem.W.exmOne K (.ref z_TooMany) (.ref z_InvalidCase) = some false)
    (h286 : PySem.W.exmOne K (.ref z_TooMany) (.ref z_TooMany) = some true)
    (h287 : PySem.W.exmOne K (.ref z_InvalidText) (.ref z_InvalidName) = some false)
    (h288 : PySem.W.exmOne K (.ref z_InvalidText) (.ref z_InvalidNumber) = some false)
    (h289 : PySem.W.exmOne K (.ref z_InvalidText) (.ref z_InvalidText) = some true)
    (h290 : PySem.W.exmOne K (.ref z_InvalidText) (.ref z_TooMany) = some false)
    (h291 : PySem.W.exmOne K (.ref z_InvalidCase) (.ref z_InvalidName) = some false)
    (h292 : PySem.W.exmOne K (.ref z_InvalidCase) (.ref z_InvalidNumber) = some false)
    (h293 : PySem.W.exmOne K (.ref z_InvalidCase) (.ref z_InvalidText) = some false)
    (h294 : PySem.W.exmOne K (.ref z_InvalidCase) (.ref z_InvalidCircle) = some false)
    (h295 : PySem.W.exmOne K (.ref z_InvalidCase) (.ref z_InvalidTie) = some false)
    (h296 : PySem.W.exmOne K (.ref z_InvalidCase) (.ref z_InvalidParting) = some false)
    (h297 : PySem.W.exmOne K (.ref z_InvalidCase) (.ref z_InvalidCase) = some true)
    (h298 : PySem.W.nsIn K mainGlobals "_wall" = some (some (.ref f103)))
    (h299 : K.lookup f103 = some ⟨oc103, od103, .func (PySem.W.fnOf "_wall" "_wall" (defArgs s_wall) (defBody s_wall) (defScope s_wall) .none kV103 dc103 pm103 an103 cd103 ct103), sl103⟩)
    (h300 : PySem.W.codeIn K cd103 "_wall" = true)
    (h301 : PySem.W.keepIn K (.ref f103) = true)
    (h302 : PySem.W.nsIn K mainGlobals "is_name" = some (some (.ref f104)))
    (h303 : K.lookup f104 = some ⟨oc104, od104, .func (PySem.W.fnOf "is_name" "is_name" (defArgs s_is_name) (defBody s_is_name) (defScope s_is_name) .none kV104 dc104 pm104 an104 cd104 ct104), sl104⟩)
    (h304 : PySem.W.codeIn K cd104 "is_name" = true)
    (h305 : PySem.W.keepIn K (.ref f104) = true)
    (h306 : PySem.W.nsIn K mainGlobals "is_number" = some (some (.ref f105)))
    (h307 : K.lookup f105 = some ⟨oc105, od105, .func (PySem.W.fnOf "is_number" "is_number" (defArgs s_is_number) (defBody s_is_number) (defScope s_is_number) .none kV105 dc105 pm105 an105 cd105 ct105), sl105⟩)
    (h308 : PySem.W.codeIn K cd105 "is_number" = true)
    (h309 : PySem.W.keepIn K (.ref f105) = true)
    (h310 : PySem.W.nsIn K mainGlobals "is_parting" = some (some (.ref f106)))
    (h311 : K.lookup f106 = some ⟨oc106, od106, .func (PySem.W.fnOf "is_parting" "is_parting" (defArgs s_is_parting) (defBody s_is_parting) (defScope s_is_parting) .none kV106 dc106 pm106 an106 cd106 ct106), sl106⟩)
    (h312 : PySem.W.codeIn K cd106 "is_parting" = true)
    (h313 : PySem.W.keepIn K (.ref f106) = true)
    (h314 : PySem.W.nsIn K mainGlobals "is_item" = some (some (.ref f107)))
    (h315 : K.lookup f107 = some ⟨oc107, od107, .func (PySem.W.fnOf "is_item" "is_item" (defArgs s_is_item) (defBody s_is_item) (defScope s_is_item) .none kV107 dc107 pm107 an107 cd107 ct107), sl107⟩)
    (h316 : PySem.W.codeIn K cd107 "is_item" = true)
    (h317 : PySem.W.keepIn K (.ref f107) = true)
    (h318 : PySem.W.nsIn K mainGlobals "apart" = some (some (.ref f108)))
    (h319 : K.lookup f108 = some ⟨oc108, od108, .func (PySem.W.fnOf "apart" "apart" (defArgs s_apart) (defBody s_apart) (defScope s_apart) .none kV108 dc108 pm108 an108 cd108 ct108), sl108⟩)
    (h320 : PySem.W.codeIn K cd108 "apart" = true)
    (h321 : PySem.W.keepIn K (.ref f108) = true)
    (h322 : PySem.W.nsIn K mainGlobals "linked" = some (some (.ref f109)))
    (h323 : K.lookup f109 = some ⟨oc109, od109, .func (PySem.W.fnOf "linked" "linked" (defArgs s_linked) (defBody s_linked) (defScope s_linked) .none kV109 dc109 pm109 an109 cd109 ct109), sl109⟩)
    (h324 : PySem.W.codeIn K cd109 "linked" = true)
    (h325 : PySem.W.keepIn K (.ref f109) = true)
    (h326 : PySem.W.nsIn K mainGlobals "by_keys" = some (some (.ref f110)))
    (h327 : K.lookup f110 = some ⟨oc110, od110, .func (PySem.W.fnOf "by_keys" "by_keys" (defArgs s_by_keys) (defBody s_by_keys) (defScope s_by_keys) .none kV110 dc110 pm110 an110 cd110 ct110), sl110⟩)
    (h328 : PySem.W.codeIn K cd110 "by_keys" = true)
    (h329 : PySem.W.keepIn K (.ref f110) = true)
    (h330 : PySem.W.nsIn K mainGlobals "met" = some (some (.ref f111)))
    (h331 : K.lookup f111 = some ⟨oc111, od111, .func (PySem.W.fnOf "met" "met" (defArgs s_met) (defBody s_met) (defScope s_met) .none kV111 dc111 pm111 an111 cd111 ct111), sl111⟩)
    (h332 : PySem.W.codeIn K cd111 "met" = true)
    (h333 : PySem.W.keepIn K (.ref f111) = true)
    (h334 : PySem.W.nsIn K mainGlobals "joined" = some (some (.ref f112)))
    (h335 : K.lookup f112 = some ⟨oc112, od112, .func (PySem.W.fnOf "joined" "joined" (defArgs s_joined) (defBody s_joined) (defScope s_joined) .none kV112 dc112 pm112 an112 cd112 ct112), sl112⟩)
    (h336 : PySem.W.codeIn K cd112 "joined" = true)
    (h337 : PySem.W.keepIn K (.ref f112) = true)
    (h338 : PySem.W.nsIn K mainGlobals "within" = some (some (.ref f113)))
    (h339 : K.lookup f113 = some ⟨oc113, od113, .func (PySem.W.fnOf "within" "within" (defArgs s_within) (defBody s_within) (defScope s_within) .none kV113 dc113 pm113 an113 cd113 ct113), sl113⟩)
    (h340 : PySem.W.codeIn K cd113 "within" = true)
    (h341 : PySem.W.keepIn K (.ref f113) = true)
    (h342 : PySem.W.nsIn K mainGlobals "beside" = some (some (.ref f114)))
    (h343 : K.lookup f114 = some ⟨oc114, od114, .func (PySem.W.fnOf "beside" "beside" (defArgs s_beside) (defBody s_beside) (defScope s_beside) .none kV114 dc114 pm114 an114 cd114 ct114), sl114⟩)
    (h344 : PySem.W.codeIn K cd114 "beside" = true)
    (h345 : PySem.W.keepIn K (.ref f114) = true)
    (h346 : PySem.W.nsIn K mainGlobals "check_names" = some (some (.ref f115)))
    (h347 : K.lookup f115 = some ⟨oc115, od115, .func (PySem.W.fnOf "check_names" "check_names" (defArgs s_check_names) (defBody s_check_names) (defScope s_check_names) .none kV115 dc115 pm115 an115 cd115 ct115), sl115⟩)
    (h348 : PySem.W.codeIn K cd115 "check_names" = true)
    (h349 : PySem.W.keepIn K (.ref f115) = true)
    (h350 : PySem.W.nsIn K mainGlobals "check_cases" = some (some (.ref f116)))
    (h351 : K.lookup f116 = some ⟨oc116, od116, .func (PySem.W.fnOf "check_cases" "check_cases" (defArgs s_check_cases) (defBody s_check_cases) (defScope s_check_cases) .none kV116 dc116 pm116 an116 cd116 ct116), sl116⟩)
    (h352 : PySem.W.codeIn K cd116 "check_cases" = true)
    (h353 : PySem.W.keepIn K (.ref f116) = true)
    (h354 : PySem.W.nsIn K mainGlobals "check_many" = some (some (.ref f117)))
    (h355 : K.lookup f117 = some ⟨oc117, od117, .func (PySem.W.fnOf "check_many" "check_many" (defArgs s_check_many) (defBody s_check_many) (defScope s_check_many) .none kV117 dc117 pm117 an117 cd117 ct117), sl117⟩)
    (h356 : PySem.W.codeIn K cd117 "check_many" = true)
    (h357 : PySem.W.keepIn K (.ref f117) = true)
    (h358 : PySem.W.nsIn K mainGlobals "check_ties" = some (some (.ref f118)))
    (h359 : K.lookup f118 = some ⟨oc118, od118, .func (PySem.W.fnOf "check_ties" "check_ties" (defArgs s_check_ties) (defBody s_check_ties) (defScope s_check_ties) .none kV118 dc118 pm118 an118 cd118 ct118), sl118⟩)
    (h360 : PySem.W.codeIn K cd118 "check_ties" = true)
    (h361 : PySem.W.keepIn K (.ref f118) = true)
    (h362 : PySem.W.nsIn K mainGlobals "is_tie" = some (some (.ref f119)))
    (h363 : K.lookup f119 = some ⟨oc119, od119, .func (PySem.W.fnOf "is_tie" "is_tie" (defArgs s_is_tie) (defBody s_is_tie) (defScope s_is_tie) .none kV119 dc119 pm119 an119 cd119 ct119), sl119⟩)
    (h364 : PySem.W.codeIn K cd119 "is_tie" = true)
    (h365 : PySem.W.keepIn K (.ref f119) = true)
    (h366 : PySem.W.nsIn K mainGlobals "is_parting_to" = some (some (.ref f120)))
    (h367 : K.lookup f120 = some ⟨oc120, od120, .func (PySem.W.fnOf "is_parting_to" "is_parting_to" (defArgs s_is_parting_to) (defBody s_is_parting_to) (defScope s_is_parting_to) .none kV120 dc120 pm120 an120 cd120 ct120), sl120⟩)
    (h368 : PySem.W.codeIn K cd120 "is_parting_to" = true)
    (h369 : PySem.W.keepIn K (.ref f120) = true)
    (h370 : PySem.W.nsIn K mainGlobals "tied_partings" = some (some (.ref f121)))
    (h371 : K.lookup f121 = some ⟨oc121, od121, .func (PySem.W.fnOf "tied_partings" "tied_partings" (defArgs s_tied_partings) (defBody s_tied_partings) (defScope s_tied_partings) .none kV121 dc121 pm121 an121 cd121 ct121), sl121⟩)
    (h372 : PySem.W.codeIn K cd121 "tied_partings" = true)
    (h373 : PySem.W.keepIn K (.ref f121) = true)
    (h374 : PySem.W.nsIn K mainGlobals "counting" = some (some (.ref f122)))
    (h375 : K.lookup f122 = some ⟨oc122, od122, .func (PySem.W.fnOf "counting" "counting" (defArgs s_counting) (defBody s_counting) (defScope s_counting) .none kV122 dc122 pm122 an122 cd122 ct122), sl122⟩)
    (h376 : PySem.W.codeIn K cd122 "counting" = true)
    (h377 : PySem.W.keepIn K (.ref f122) = true)
    (h378 : PySem.W.nsIn K mainGlobals "read_many" = some (some (.ref f123)))
    (h379 : K.lookup f123 = some ⟨oc123, od123, .func (PySem.W.fnOf "read_many" "read_many" (defArgs s_read_many) (defBody s_read_many) (defScope s_read_many) .none kV123 dc123 pm123 an123 cd123 ct123), sl123⟩)
    (h380 : PySem.W.codeIn K cd123 "read_many" = true)
    (h381 : PySem.W.keepIn K (.ref f123) = true)
    (h382 : PySem.W.nsIn K mainGlobals "read_parting" = some (some (.ref f124)))
    (h383 : K.lookup f124 = some ⟨oc124, od124, .func (PySem.W.fnOf "read_parting" "read_parting" (defArgs s_read_parting) (defBody s_read_parting) (defScope s_read_parting) .none kV124 dc124 pm124 an124 cd124 ct124), sl124⟩)
    (h384 : PySem.W.codeIn K cd124 "read_parting" = true)
    (h385 : PySem.W.keepIn K (.ref f124) = true)
    (h386 : PySem.W.nsIn K mainGlobals "world_with" = some (some (.ref f125)))
    (h387 : K.lookup f125 = some ⟨oc125, od125, .func (PySem.W.fnOf "world_with" "world_with" (defArgs s_world_with) (defBody s_world_with) (defScope s_world_with) .none kV125 dc125 pm125 an125 cd125 ct125), sl125⟩)
    (h388 : PySem.W.codeIn K cd125 "world_with" = true)
    (h389 : PySem.W.keepIn K (.ref f125) = true)
    (h390 : PySem.W.nsIn K mainGlobals "_law_bag" = some (some (.ref f126)))
    (h391 : K.lookup f126 = some ⟨oc126, od126, .func (PySem.W.fnOf "_law_bag" "_law_bag" (defArgs s_law_bag) (defBody s_law_bag) (defScope s_law_bag) .none kV126 dc126 pm126 an126 cd126 ct126), sl126⟩)
    (h392 : PySem.W.codeIn K cd126 "_law_bag" = true)
    (h393 : PySem.W.keepIn K (.ref f126) = true)
    (h394 : PySem.W.nsIn K mainGlobals "_law_draw" = some (some (.ref f127)))
    (h395 : K.lookup f127 = some ⟨oc127, od127, .func (PySem.W.fnOf "_law_draw" "_law_draw" (defArgs s_law_draw) (defBody s_law_draw) (defScope s_law_draw) .none kV127 dc127 pm127 an127 cd127 ct127), sl127⟩)
    (h396 : PySem.W.codeIn K cd127 "_law_draw" = true)
    (h397 : PySem.W.keepIn K (.ref f127) = true)
    (h398 : PySem.W.nsIn K mainGlobals "_law_of" = some (some (.ref f128)))
    (h399 : K.lookup f128 = some ⟨oc128, od128, .func (PySem.W.fnOf "_law_of" "_law_of" (defArgs s_law_of) (defBody s_law_of) (defScope s_law_of) .none kV128 dc128 pm128 an128 cd128 ct128), sl128⟩)
    (h400 : PySem.W.codeIn K cd128 "_law_of" = true)
    (h401 : PySem.W.keepIn K (.ref f128) = true)
    (h402 : PySem.W.nsIn K mainGlobals "_law_same" = some (some (.ref f129)))
    (h403 : K.lookup f129 = some ⟨oc129, od129, .func (PySem.W.fnOf "_law_same" "_law_same" (defArgs s_law_same) (defBody s_law_same) (defScope s_law_same) .none kV129 dc129 pm129 an129 cd129 ct129), sl129⟩)
    (h404 : PySem.W.codeIn K cd129 "_law_same" = true)
    (h405 : PySem.W.keepIn K (.ref f129) = true)
    (h406 : PySem.W.nsIn K mainGlobals "_law_try" = some (some (.ref f130)))
    (h407 : K.lookup f130 = some ⟨oc130, od130, .func (PySem.W.fnOf "_law_try" "_law_try" (defArgs s_law_try) (defBody s_law_try) (defScope s_law_try) .none kV130 dc130 pm130 an130 cd130 ct130), sl130⟩)
    (h408 : PySem.W.codeIn K cd130 "_law_try" = true)
    (h409 : PySem.W.keepIn K (.ref f130) = true)
    (h410 : PySem.W.nsIn K mainGlobals "_law_title" = some (some (.ref f131)))
    (h411 : K.lookup f131 = some ⟨oc131, od131, .func (PySem.W.fnOf "_law_title" "_law_title" (defArgs s_law_title) (defBody s_law_title) (defScope s_law_title) .none kV131 dc131 pm131 an131 cd131 ct131), sl131⟩)
    (h412 : PySem.W.codeIn K cd131 "_law_title" = true)
    (h413 : PySem.W.keepIn K (.ref f131) = true)
    (h414 : PySem.W.nsIn K mainGlobals "_law_titles" = some (some (.ref f132)))
    (h415 : K.lookup f132 = some ⟨oc132, od132, .func (PySem.W.fnOf "_law_titles" "_law_titles" (defArgs s_law_titles) (defBody s_law_titles) (defScope s_law_titles) .none kV132 dc132 pm132 an132 cd132 ct132), sl132⟩)
    (h416 : PySem.W.codeIn K cd132 "_law_titles" = true)
    (h417 : PySem.W.keepIn K (.ref f132) = true)
    (h418 : PySem.W.nsIn K mainGlobals "_law_is_title" = some (some (.ref f133)))
    (h419 : K.lookup f133 = some ⟨oc133, od133, .func (PySem.W.fnOf "_law_is_title" "_law_is_title" (defArgs s_law_is_title) (defBody s_law_is_title) (defScope s_law_is_title) .none kV133 dc133 pm133 an133 cd133 ct133), sl133⟩)
    (h420 : PySem.W.codeIn K cd133 "_law_is_title" = true)
    (h421 : PySem.W.keepIn K (.ref f133) = true)
    (h422 : PySem.W.nsIn K mainGlobals "_law_is_case" = some (some (.ref f134)))
    (h423 : K.lookup f134 = some ⟨oc134, od134, .func (PySem.W.fnOf "_law_is_case" "_law_is_case" (defArgs s_law_is_case) (defBody s_law_is_case) (defScope s_law_is_case) .none kV134 dc134 pm134 an134 cd134 ct134), sl134⟩)
    (h424 : PySem.W.codeIn K cd134 "_law_is_case" = true)
    (h425 : PySem.W.keepIn K (.ref f134) = true)
    (h426 : PySem.W.nsIn K mainGlobals "_law_is_rows" = some (some (.ref f135)))
    (h427 : K.lookup f135 = some ⟨oc135, od135, .func (PySem.W.fnOf "_law_is_rows" "_law_is_rows" (defArgs s_law_is_rows) (defBody s_law_is_rows) (defScope s_law_is_rows) .none kV135 dc135 pm135 an135 cd135 ct135), sl135⟩)
    (h428 : PySem.W.codeIn K cd135 "_law_is_rows" = true)
    (h429 : PySem.W.keepIn K (.ref f135) = true)
    (h430 : PySem.W.nsIn K mainGlobals "_law_alone" = some (some (.ref f136)))
    (h431 : K.lookup f136 = some ⟨oc136, od136, .func (PySem.W.fnOf "_law_alone" "_law_alone" (defArgs s_law_alone) (defBody s_law_alone) (defScope s_law_alone) .none kV136 dc136 pm136 an136 cd136 ct136), sl136⟩)
    (h432 : PySem.W.codeIn K cd136 "_law_alone" = true)
    (h433 : PySem.W.keepIn K (.ref f136) = true)
    (h434 : PySem.W.nsIn K mainGlobals "_law_merged" = some (some (.ref f137)))
    (h435 : K.lookup f137 = some ⟨oc137, od137, .func (PySem.W.fnOf "_law_merged" "_law_merged" (defArgs s_law_merged) (defBody s_law_merged) (defScope s_law_merged) .none kV137 dc137 pm137 an137 cd137 ct137), sl137⟩)
    (h436 : PySem.W.codeIn K cd137 "_law_merged" = true)
    (h437 : PySem.W.keepIn K (.ref f137) = true)
    (h438 : PySem.W.nsIn K mainGlobals "_law_rows" = some (some (.ref f138)))
    (h439 : K.lookup f138 = some ⟨oc138, od138, .func (PySem.W.fnOf "_law_rows" "_law_rows" (defArgs s_law_rows) (defBody s_law_rows) (defScope s_law_rows) .none kV138 dc138 pm138 an138 cd138 ct138), sl138⟩)
    (h440 : PySem.W.codeIn K cd138 "_law_rows" = true)
    (h441 : PySem.W.keepIn K (.ref f138) = true)
    (h442 : PySem.W.nsIn K mainGlobals "_law_views" = some (some (.ref f139)))
    (h443 : K.lookup f139 = some ⟨oc139, od139, .func (PySem.W.fnOf "_law_views" "_law_views" (defArgs s_law_views) (defBody s_law_views) (defScope s_law_views) .none kV139 dc139 pm139 an139 cd139 ct139), sl139⟩)
    (h444 : PySem.W.codeIn K cd139 "_law_views" = true)
    (h445 : PySem.W.keepIn K (.ref f139) = true)
    (h446 : PySem.W.nsIn K mainGlobals "_law_seen" = some (some (.ref f140)))
    (h447 : K.lookup f140 = some ⟨oc140, od140, .func (PySem.W.fnOf "_law_seen" "_law_seen" (defArgs s_law_seen) (defBody s_law_seen) (defScope s_law_seen) .none kV140 dc140 pm140 an140 cd140 ct140), sl140⟩)
    (h448 : PySem.W.codeIn K cd140 "_law_seen" = true)
    (h449 : PySem.W.keepIn K (.ref f140) = true)
    (h450 : PySem.W.nsIn K mainGlobals "_law_knots" = some (some (.ref f141)))
    (h451 : K.lookup f141 = some ⟨oc141, od141, .func (PySem.W.fnOf "_law_knots" "_law_knots" (defArgs s_law_knots) (defBody s_law_knots) (defScope s_law_knots) .none kV141 dc141 pm141 an141 cd141 ct141), sl141⟩)
    (h452 : PySem.W.codeIn K cd141 "_law_knots" = true)
    (h453 : PySem.W.keepIn K (.ref f141) = true)
    (h454 : PySem.W.nsIn K mainGlobals "_law_chapter" = some (some (.ref f142)))
    (h455 : K.lookup f142 = some ⟨oc142, od142, .func (PySem.W.fnOf "_law_chapter" "_law_chapter" (defArgs s_law_chapter) (defBody s_law_chapter) (defScope s_law_chapter) .none kV142 dc142 pm142 an142 cd142 ct142), sl142⟩)
    (h456 : PySem.W.codeIn K cd142 "_law_chapter" = true)
    (h457 : PySem.W.keepIn K (.ref f142) = true)
    (h458 : PySem.W.nsIn K mainGlobals "_law_world_so" = some (some (.ref f143)))
    (h459 : K.lookup f143 = some ⟨oc143, od143, .func (PySem.W.fnOf "_law_world_so" "_law_world_so" (defArgs s_law_world_so) (defBody s_law_world_so) (defScope s_law_world_so) .none kV143 dc143 pm143 an143 cd143 ct143), sl143⟩)
    (h460 : PySem.W.codeIn K cd143 "_law_world_so" = true)
    (h461 : PySem.W.keepIn K (.ref f143) = true)
    (h462 : PySem.W.nsIn K mainGlobals "_law_many" = some (some (.ref f144)))
    (h463 : K.lookup f144 = some ⟨oc144, od144, .func (PySem.W.fnOf "_law_many" "_law_many" (defArgs s_law_many) (defBody s_law_many) (defScope s_law_many) .none kV144 dc144 pm144 an144 cd144 ct144), sl144⟩)
    (h464 : PySem.W.codeIn K cd144 "_law_many" = true)
    (h465 : PySem.W.keepIn K (.ref f144) = true)
    (h466 : PySem.W.nsIn K mainGlobals "_law_eye_row" = some (some (.ref f145)))
    (h467 : K.lookup f145 = some ⟨oc145, od145, .func (PySem.W.fnOf "_law_eye_row" "_law_eye_row" (defArgs s_law_eye_row) (defBody s_law_eye_row) (defScope s_law_eye_row) .none kV145 dc145 pm145 an145 cd145 ct145), sl145⟩)
    (h468 : PySem.W.codeIn K cd145 "_law_eye_row" = true)
    (h469 : PySem.W.keepIn K (.ref f145) = true)
    (h470 : PySem.W.nsIn K mainGlobals "_law_reader" = some (some (.ref f146)))
    (h471 : K.lookup f146 = some ⟨oc146, od146, .func (PySem.W.fnOf "_law_reader" "_law_reader" (defArgs s_law_reader) (defBody s_law_reader) (defScope s_law_reader) .none kV146 dc146 pm146 an146 cd146 ct146), sl146⟩)
    (h472 : PySem.W.codeIn K cd146 "_law_reader" = true)
    (h473 : PySem.W.keepIn K (.ref f146) = true)
    (h474 : PySem.W.nsIn K mainGlobals "_law_text_so" = some (some (.ref f147)))
    (h475 : K.lookup f147 = some ⟨oc147, od147, .func (PySem.W.fnOf "_law_text_so" "_law_text_so" (defArgs s_law_text_so) (defBody s_law_text_so) (defScope s_law_text_so) .none kV147 dc147 pm147 an147 (.ref z_cdA) ct147), sl147⟩)
    (h476 : PySem.W.codeIn K (.ref z_cdA) "_law_text_so" = true)
    (h477 : PySem.W.keepIn K (.ref f147) = true)
    (h478 : PySem.W.nsIn K mainGlobals "_law_line" = some (some (.ref f148)))
    (h479 : K.lookup f148 = some ⟨oc148, od148, .func (PySem.W.fnOf "_law_line" "_law_line" (defArgs s_law_line) (defBody s_law_line) (defScope s_law_line) .none kV148 dc148 pm148 an148 cd148 ct148), sl148⟩)
    (h480 : PySem.W.codeIn K cd148 "_law_line" = true)
    (h481 : PySem.W.keepIn K (.ref f148) = true)
    (h482 : PySem.W.nsIn K mainGlobals "_law_bent" = some (some (.ref f149)))
    (h483 : K.lookup f149 = some ⟨oc149, od149, .func (PySem.W.fnOf "_law_bent" "_law_bent" (defArgs s_law_bent) (defBody s_law_bent) (defScope s_law_bent) .none kV149 dc149 pm149 an149 cd149 ct149), sl149⟩)
    (h484 : PySem.W.codeIn K cd149 "_law_bent" = true)
    (h485 : PySem.W.keepIn K (.ref f149) = true)
    (h486 : PySem.W.nsIn K mainGlobals "law" = some (some (.ref f150)))
    (h487 : K.lookup f150 = some ⟨oc150, od150, .func (PySem.W.fnOf "law" "law" (defArgs s_law) (defBody s_law) (defScope s_law) .none kV150 dc150 pm150 an150 cd150 ct150), sl150⟩)
    (h488 : PySem.W.codeIn K cd150 "law" = true)
    (h489 : PySem.W.keepIn K (.ref f150) = true)
    (h490 : K.lookup z_cdA = some o151)
    (h491 : (o151).cls = .type "code")
    (h492 : (o151).data = .fields vs151)
    (h493 : (vs151)[11]? = some (.ref z_tbA))
    (h494 : (vs151).getD 11 .none = .ref z_tbA)
    (h495 : (vs151).getD 18 .none = .str fi151 tf151)
    (h496 : (vs151).getD 7 .none = .int fl151 tg151)
    (h497 : (vs151).getD 9 .none = .bool nf151)
    (h498 : (vs151).getD 10 .none = .int tx151 tt151)
    (h499 : z_cdA ≠ z_tbA)
    (h500 : h.get? z_tbA = some { cls := .none, data := .fields #[] })
    (h501 : (K.lookup z_tbA).isNone = true) :
    ∃ A : Adr, Txt K mg A ∧ Tbs K h A := ⟨⟨0, z_World, z_InvalidName, z_InvalidNumber, z_InvalidText, z_InvalidCircle, z_InvalidTie, z_InvalidParting, z_InvalidCase, z_TooMany, z_cdA, z_tbA⟩, {n_isinstance := PySem.W.mg_none_of X G h1, n_str := PySem.W.mg_none_of X G h2, n_len := PySem.W.mg_none_of X G h3, n_all := PySem.W.mg_none_of X G h4, n_bool := PySem.W.mg_none_of X G h5, n_int := PySem.W.mg_none_of X G h6, n_tuple := PySem.W.mg_none_of X G h7, n_range := PySem.W.mg_none_of X G h8, n_list := PySem.W.mg_none_of X G h9, n_max := PySem.W.mg_none_of X G h10, n_min := PySem.W.mg_none_of X G h11, n_enumerate := PySem.W.mg_none_of X G h12, n_zip := PySem.W.mg_none_of X G h13, n_sorted := PySem.W.mg_none_of X G h14, n_dict := PySem.W.mg_none_of X G h15, n_NotImplemented := PySem.W.mg_none_of X G h16, n_staticmethod := PySem.W.mg_none_of X G h17, n_abs := PySem.W.mg_none_of X G h18, n_set := PySem.W.mg_none_of X G h19, n_repr := PySem.W.mg_none_of X G h20, n_ValueError := PySem.W.mg_none_of X G h21, n_LookupError := PySem.W.mg_none_of X G h22, m_LETTERS := ⟨_, PySem.W.mg_of X G h23⟩, m_MOST_LETTERS := ⟨_, PySem.W.mg_of X G h24⟩, m_World := PySem.W.mg_of X G h25, c_World := ⟨h26, h27, h28, h29⟩, y_World := ⟨h30, h31, h32, h33, kit_own h34 (by decide +kernel), kit_own h35 (by decide +kernel), kit_own h36 (by decide +kernel), kit_own h37 (by decide +kernel), kit_own h38 (by decide +kernel), kit_own h39 (by decide +kernel)⟩, s_World := h40, a_World_many := h41, a_World_partings := h42, k_World_LIMIT := ⟨_, ⟨h43, h44⟩, ⟨h45, ⟨_, rfl⟩⟩⟩, q_World_LIMIT := ⟨_, ⟨h46, ⟨_, rfl⟩, h47, by decide +kernel⟩⟩, i_World := initAtD_mk h48 h49 h50 h51 h52 h53 h54 h55 h56 (fun _ _ _ _ _ _ _ us its h1 h2 => match us, its, h1, h2 with | [_, _, _], [_], _, _ => ⟨_, rfl, rfl⟩), j_World := initD0_mk h57 h58 h59 h60 h61 h62 h63 h64 h65 h66 h67 h68 (by decide) (fun _ _ _ _ _ _ _ us its h1 h2 => match us, its, h1, h2 with | [_, _], [_], _, _ => ⟨_, rfl, rfl⟩), u_World_parted := staAt_mk h69 h70 h71 h72 h73 h74 h75 (fun _ _ _ _ _ _ us hl => match us, hl with | [_, _], _ => rfl), u_World_read := staAt_mk h76 h77 h78 h79 h80 h81 h82 (fun _ _ _ _ _ _ us hl => match us, hl with | [_], _ => rfl), t_World_eyes := methAt_mk h83 h84 h85 h86 h87 (fun _ _ _ _ _ _ us hl => match us, hl with | [_], _ => rfl), t_World_partings := methAt_mk h88 h89 h90 h91 h92 (fun _ _ _ _ _ _ us hl => match us, hl with | [_], _ => rfl), t_World_parting_named := methAt_mk h93 h94 h95 h96 h97 (fun _ _ _ _ _ _ us hl => match us, hl with | [_, _], _ => rfl), t_World_parting := methAt_mk h98 h99 h100 h101 h102 (fun _ _ _ _ _ _ us hl => match us, hl with | [_, _], _ => rfl), t_World_alike := methAt_mk h103 h104 h105 h106 h107 (fun _ _ _ _ _ _ us hl => match us, hl with | [_, _, _, _], _ => rfl), t_World_tells := methAt_mk h108 h109 h110 h111 h112 (fun _ _ _ _ _ _ us hl => match us, hl with | [_, _, _], _ => rfl), t_World_kept_to := methAt_mk h113 h114 h115 h116 h117 (fun _ _ _ _ _ _ us hl => match us, hl with | [_, _], _ => rfl), t_World_text := methAt_mk h118 h119 h120 h121 h122 (fun _ _ _ _ _ _ us hl => match us, hl with | [_], _ => rfl), t_World___add := methAt_mk h123 h124 h125 h126 h127 (fun _ _ _ _ _ _ us hl => match us, hl with | [_, _], _ => rfl), t_World___eq := methAt_mk h128 h129 h130 h131 h132 (fun _ _ _ _ _ _ us hl => match us, hl with | [_, _], _ => rfl), t_World___len := methAt_mk h133 h134 h135 h136 h137 (fun _ _ _ _ _ _ us hl => match us, hl with | [_], _ => rfl), t_World___str := methAt_mk h138 h139 h140 h141 h142 (fun _ _ _ _ _ _ us hl => match us, hl with | [_], _ => rfl), t_World___repr := methAt_mk h143 h144 h145 h146 h147 (fun _ _ _ _ _ _ us hl => match us, hl with | [_], _ => rfl), e_InvalidName := errAt_mk X G h148 h149 h150 h151 h152 h153 h154 h155 h156 h157 h158 h159 h160 (fun _ _ _ _ _ _ us hl => match us, hl with | [_, _], _ => rfl), a_InvalidName_value := h161, e_InvalidNumber := errAt_mk X G h162 h163 h164 h165 h166 h167 h168 h169 h170 h171 h172 h173 h174 (fun _ _ _ _ _ _ us hl => match us, hl with | [_, _], _ => rfl), a_InvalidNumber_value := h175, e_InvalidText := errAt_mk X G h176 h177 h178 h179 h180 h181 h182 h183 h184 h185 h186 h187 h188 (fun _ _ _ _ _ _ us hl => match us, hl with | [_, _], _ => rfl), a_InvalidText_at := h189, e_InvalidCircle := errAt_mk X G h190 h191 h192 h193 h194 h195 h196 h197 h198 h199 h200 h201 h202 (fun _ _ _ _ _ _ us hl => match us, hl with | [_, _], _ => rfl), a_InvalidCircle_at := h203, e_InvalidTie := errAt_mk X G h204 h205 h206 h207 h208 h209 h210 h211 h212 h213 h214 h215 h216 (fun _ _ _ _ _ _ us hl => match us, hl with | [_, _], _ => rfl), a_InvalidTie_at := h217, e_InvalidParting := errAt_mk X G h218 h219 h220 h221 h222 h223 h224 h225 h226 h227 h228 h229 h230 (fun _ _ _ _ _ _ us hl => match us, hl with | [_, _], _ => rfl), a_InvalidParting_value := h231, e_InvalidCase := errAt_mk X G h232 h233 h234 h235 h236 h237 h238 h239 h240 h241 h242 h243 h244 (fun _ _ _ _ _ _ us hl => match us, hl with | [_, _], _ => rfl), a_InvalidCase_value := h245, e_TooMany := errAt_mk X G h246 h247 h248 h249 h250 h251 h252 h253 h254 h255 h256 h257 h258 (fun _ _ _ _ _ _ us hl => match us, hl with | [_, _, _], _ => rfl), a_TooMany_what := h259, a_TooMany_most := h260, x_InvalidName_InvalidName := h261, x_InvalidCircle_InvalidName := h262, x_InvalidCircle_InvalidNumber := h263, x_InvalidCircle_InvalidText := h264, x_InvalidCircle_InvalidCircle := h265, x_InvalidNumber_InvalidName := h266, x_InvalidNumber_InvalidNumber := h267, x_InvalidTie_InvalidName := h268, x_InvalidTie_InvalidNumber := h269, x_InvalidTie_InvalidText := h270, x_InvalidTie_InvalidCircle := h271, x_InvalidTie_InvalidTie := h272, x_InvalidParting_InvalidName := h273, x_InvalidParting_InvalidNumber := h274, x_InvalidParting_InvalidText := h275, x_InvalidParting_InvalidCircle := h276, x_InvalidParting_InvalidTie := h277, x_InvalidParting_InvalidParting := h278, x_TooMany_InvalidName := h279, x_TooMany_InvalidNumber := h280, x_TooMany_InvalidText := h281, x_TooMany_InvalidCircle := h282, x_TooMany_InvalidTie := h283, x_TooMany_InvalidParting := h284, x_TooMany_InvalidCase := h285, x_TooMany_TooMany := h286, x_InvalidText_InvalidName := h287, x_InvalidText_InvalidNumber := h288, x_InvalidText_InvalidText := h289, x_InvalidText_TooMany := h290, x_InvalidCase_InvalidName := h291, x_InvalidCase_InvalidNumber := h292, x_InvalidCase_InvalidText := h293, x_InvalidCase_InvalidCircle := h294, x_InvalidCase_InvalidTie := h295, x_InvalidCase_InvalidParting := h296, x_InvalidCase_InvalidCase := h297, f_wall := fnAt_mk X G h298 h299 h300 h301 (fun _ _ _ _ _ _ us hl => match us, hl with | [_], _ => rfl), f_is_name := fnAt_mk X G h302 h303 h304 h305 (fun _ _ _ _ _ _ us hl => match us, hl with | [_], _ => rfl), f_is_number := fnAt_mk X G h306 h307 h308 h309 (fun _ _ _ _ _ _ us hl => match us, hl with | [_, _, _], _ => rfl), f_is_parting := fnAt_mk X G h310 h311 h312 h313 (fun _ _ _ _ _ _ us hl => match us, hl with | [_], _ => rfl), f_is_item := fnAt_mk X G h314 h315 h316 h317 (fun _ _ _ _ _ _ us hl => match us, hl with | [_, _], _ => rfl), f_apart := fnAt_mk X G h318 h319 h320 h321 (fun _ _ _ _ _ _ us hl => match us, hl with | [_], _ => rfl), f_linked := fnAt_mk X G h322 h323 h324 h325 (fun _ _ _ _ _ _ us hl => match us, hl with | [_, _], _ => rfl), f_by_keys := fnAt_mk X G h326 h327 h328 h329 (fun _ _ _ _ _ _ us hl => match us, hl with | [_], _ => rfl), f_met := fnAt_mk X G h330 h331 h332 h333 (fun _ _ _ _ _ _ us hl => match us, hl with | [_], _ => rfl), f_joined := fnAt_mk X G h334 h335 h336 h337 (fun _ _ _ _ _ _ us hl => match us, hl with | [_], _ => rfl), f_within := fnAt_mk X G h338 h339 h340 h341 (fun _ _ _ _ _ _ us hl => match us, hl with | [_, _], _ => rfl), f_beside := fnAt_mk X G h342 h343 h344 h345 (fun _ _ _ _ _ _ us hl => match us, hl with | [_, _], _ => rfl), f_check_names := fnAt_mk X G h346 h347 h348 h349 (fun _ _ _ _ _ _ us hl => match us, hl with | [_], _ => rfl), f_check_cases := fnAt_mk X G h350 h351 h352 h353 (fun _ _ _ _ _ _ us hl => match us, hl with | [_, _], _ => rfl), f_check_many := fnAt_mk X G h354 h355 h356 h357 (fun _ _ _ _ _ _ us hl => match us, hl with | [_], _ => rfl), f_check_ties := fnAt_mk X G h358 h359 h360 h361 (fun _ _ _ _ _ _ us hl => match us, hl with | [_, _], _ => rfl), f_is_tie := fnAt_mk X G h362 h363 h364 h365 (fun _ _ _ _ _ _ us hl => match us, hl with | [_, _], _ => rfl), f_is_parting_to := fnAt_mk X G h366 h367 h368 h369 (fun _ _ _ _ _ _ us hl => match us, hl with | [_, _], _ => rfl), f_tied_partings := fnAt_mk X G h370 h371 h372 h373 (fun _ _ _ _ _ _ us hl => match us, hl with | [_, _], _ => rfl), f_counting := fnAt_mk X G h374 h375 h376 h377 (fun _ _ _ _ _ _ us hl => match us, hl with | [_, _], _ => rfl), f_read_many := fnAt_mk X G h378 h379 h380 h381 (fun _ _ _ _ _ _ us hl => match us, hl with | [_], _ => rfl), f_read_parting := fnAt_mk X G h382 h383 h384 h385 (fun _ _ _ _ _ _ us hl => match us, hl with | [_, _], _ => rfl), f_world_with := fnAt_mk X G h386 h387 h388 h389 (fun _ _ _ _ _ _ us hl => match us, hl with | [_, _], _ => rfl), f_law_bag := fnAt_mk X G h390 h391 h392 h393 (fun _ _ _ _ _ _ us hl => match us, hl with | [_], _ => rfl), f_law_draw := fnAt_mk X G h394 h395 h396 h397 (fun _ _ _ _ _ _ us hl => match us, hl with | [_, _], _ => rfl), f_law_of := fnAt_mk X G h398 h399 h400 h401 (fun _ _ _ _ _ _ us hl => match us, hl with | [_, _], _ => rfl), f_law_same := fnAt_mk X G h402 h403 h404 h405 (fun _ _ _ _ _ _ us hl => match us, hl with | [_, _], _ => rfl), f_law_try := fnAt_mk X G h406 h407 h408 h409 (fun _ _ _ _ _ _ us hl => match us, hl with | [_], _ => rfl), f_law_title := fnAt_mk X G h410 h411 h412 h413 (fun _ _ _ _ _ _ us hl => match us, hl with | [_, _], _ => rfl), f_law_titles := fnAt_mk X G h414 h415 h416 h417 (fun _ _ _ _ _ _ us hl => match us, hl with | [_, _], _ => rfl), f_law_is_title := fnAt_mk X G h418 h419 h420 h421 (fun _ _ _ _ _ _ us hl => match us, hl with | [_], _ => rfl), f_law_is_case := fnAt_mk X G h422 h423 h424 h425 (fun _ _ _ _ _ _ us hl => match us, hl with | [_, _], _ => rfl), f_law_is_rows := fnAt_mk X G h426 h427 h428 h429 (fun _ _ _ _ _ _ us hl => match us, hl with | [_], _ => rfl), f_law_alone := fnAt_mk X G h430 h431 h432 h433 (fun _ _ _ _ _ _ us hl => match us, hl with | [_], _ => rfl), f_law_merged := fnAt_mk X G h434 h435 h436 h437 (fun _ _ _ _ _ _ us hl => match us, hl with | [_, _], _ => rfl), f_law_rows := fnAt_mk X G h438 h439 h440 h441 (fun _ _ _ _ _ _ us hl => match us, hl with | [_, _], _ => rfl), f_law_views := fnAt_mk X G h442 h443 h444 h445 (fun _ _ _ _ _ _ us hl => match us, hl with | [_, _], _ => rfl), f_law_seen := fnAt_mk X G h446 h447 h448 h449 (fun _ _ _ _ _ _ us hl => match us, hl with | [_, _], _ => rfl), f_law_knots := fnAt_mk X G h450 h451 h452 h453 (fun _ _ _ _ _ _ us hl => match us, hl with | [_, _, _, _], _ => rfl), f_law_chapter := fnAt_mk X G h454 h455 h456 h457 (fun _ _ _ _ _ _ us hl => match us, hl with | [_, _], _ => rfl), f_law_world_so := fnAt_mk X G h458 h459 h460 h461 (fun _ _ _ _ _ _ us hl => match us, hl with | [_, _, _], _ => rfl), f_law_many := fnAt_mk X G h462 h463 h464 h465 (fun _ _ _ _ _ _ us hl => match us, hl with | [_], _ => rfl), f_law_eye_row := fnAt_mk X G h466 h467 h468 h469 (fun _ _ _ _ _ _ us hl => match us, hl with | [_, _], _ => rfl), f_law_reader := fnAt_mk X G h470 h471 h472 h473 (fun _ _ _ _ _ _ us hl => match us, hl with | [_], _ => rfl), f_law_text_so := fnAtC_mk X G h474 h475 h476 h477 (fun _ _ _ _ _ _ us hl => match us, hl with | [_], _ => rfl), f_law_line := fnAt_mk X G h478 h479 h480 h481 (fun _ _ _ _ _ _ us hl => match us, hl with | [_, _, _], _ => rfl), f_law_bent := fnAt_mk X G h482 h483 h484 h485 (fun _ _ _ _ _ _ us hl => match us, hl with | [_, _, _, _], _ => rfl), f_law := fnAt_mk X G h486 h487 h488 h489 (fun _ _ _ _ _ _ us hl => match us, hl with | [_], _ => rfl) }, {cA := codeHd_mk X h490 h491 h492 h493 h494 h495 h496 h497 h498 h499, tA := h500, nA := (Option.isNone_iff_eq_none.mp h501) }⟩
theorem fin {l : PySem.W.OpenLaw} {w : World} {K : PySem.W.Frag} {mg : Str → Option Value} {fa : Addr} {h : Heap} (T : ∃ A : Adr, Txt K mg A ∧ Tbs K h A) (hmg : mg "law" = some (.ref fa)) : LamX.LawAtS l w K CX0 90 63 "_law_script" mg fa h := by
  obtain ⟨A, T, B⟩ := T
  obtain ⟨f, fd, F, hb, hm⟩ := T.f_law
  obtain ⟨oc, od, kV, doc, pm, an, cdv, ct, osl, rfl, lk, hcd⟩ := F.ex
  cases hmg.symm.trans hm
  refine ⟨PySem.W.fnOf "law" "law" (defArgs s_law) (defBody s_law) (defScope s_law) .none kV doc pm an cdv ct, [(A.cdA, A.tbA)], spLaw K (TT A), ?_, ?_, ?_, fun s v => .of_eq rfl, fun H a ns hl _ hT hS => ⟨a, ns, rfl, hS, hl, tabs_new ?_, fun _ => rfl⟩, fun base _ _ TB => ?_⟩
  · intro p hp
    simp only [List.mem_cons, List.not_mem_nil, or_false] at hp
    rcases hp with rfl
    · exact B.tA
  · intro p hp
    simp only [List.mem_cons, List.not_mem_nil, or_false] at hp
    rcases hp with rfl
    · exact B.nA
  · intro p hp
    simp only [List.mem_cons, List.not_mem_nil, or_false] at hp
    rcases hp with rfl
    · exact B.cA
  · intro p hp
    simp only [TT, List.mem_cons, List.not_mem_nil, or_false] at hp
    rcases hp with rfl
    · exact hT (A.cdA, A.tbA) (by simp)
  · obtain ⟨f2, fd2, hm2, F2, _, R⟩ := ok_law (P := l.prog) (w := w) (base := base) T (TB (A.cdA, A.tbA) (by simp))
    cases hm.symm.trans hm2
    obtain ⟨oc2, od2, kV2, doc2, pm2, an2, cdv2, ct2, osl2, rfl, lk2, hcd2⟩ := F2.ex
    cases lk.symm.trans lk2
    exact R
end Eyes
open PySem PySem.W PyProof.Rows
set_option maxHeartbeats 0 in
theorem PySem.Challenge.cw_pooledeyes_k11_world_texts_read_back_holds : PySem.Challenge.rw_pooledeyes_k11_world_texts_read_back.Holds := by
  w_on; o_law; refine EyesHd.headq (by first | assumption | decide +kernel) ?hw ?hc; (case hw => w_witness2)
  delta EyesHd.hk0
  k_fill
  refine LamX.walk_ofTs (l := PySem.Challenge.rw_pooledeyes_k11_world_texts_read_back) (n := 63) (k := 90) (x := "_law_script") (CX := fun _ => L2.CX0) rfl (by decide) EyesHd.lawD_dfl ⟨rfl, by decide, by decide⟩ (fun w h Y => Y.1) ?F (fun _ _ _ _ _ h => h)
  case F =>
    intro w mg fa h Y KX G hmg
    rw [EyesHd.lawD_name] at hmg
    refine' Eyes.fin (Eyes.txt_mk KX G ?h1 ?h2 ?h3 ?h4 ?h5 ?h6 ?h7 ?h8 ?h9 ?h10 ?h11 ?h12 ?h13 ?h14 ?h15 ?h16 ?h17 ?h18 ?h19 ?h20 ?h21 ?h22 ?h23 ?h24 ?h25 ?h26 ?h27 ?h28 ?h29 ?h30 ?h31 ?h32 ?h33 ?h34 ?h35 ?h36 ?h37 ?h38 ?h39 ?h40 ?h41 ?h42 ?h43 ?h44 ?h45 ?h46 ?h47 ?h48 ?h49 ?h50 ?h51 ?h52 ?h53 ?h54 ?h55 ?h56 ?h57 ?h58 ?h59 ?h60 ?h61 ?h62 ?h63 ?h64 ?h65 ?h66 ?h67 ?h68 ?h69 ?h70 ?h71 ?h72 ?h73 ?h74 ?h75 ?h76 ?h77 ?h78 ?h79 ?h80 ?h81 ?h82 ?h83 ?h84 ?h85 ?h86 ?h87 ?h88 ?h89 ?h90 ?h91 ?h92 ?h93 ?h94 ?h95 ?h96 ?h97 ?h98 ?h99 ?h100 ?h101 ?h102 ?h103 ?h104 ?h105 ?h106 ?h107 ?h108 ?h109 ?h110 ?h111 ?h112 ?h113 ?h114 ?h115 ?h116 ?h117 ?h118 ?h119 ?h120 ?h121 ?h122 ?h123 ?h124 ?h125 ?h126 ?h127 ?h128 ?h129 ?h130 ?h131 ?h132 ?h133 ?h134 ?h135 ?h136 ?h137 ?h138 ?h139 ?h140 ?h141 ?h142 ?h143 ?h144 ?h145 ?h146 ?h147 ?h148 ?h149 ?h150 ?h151 ?h152 ?h153 ?h154 ?h155 ?h156 ?h157 ?h158 ?h159 ?h160 ?h161 ?h162 ?h163 ?h164 ?h165 ?h166 ?h167 ?h168 ?h169 ?h170 ?h171 ?h172 ?h173 ?h174 ?h175 ?h176 ?h177 ?h178 ?h179 ?h180 ?h181 ?h182 ?h183 ?h184 ?h185 ?h186 ?h187 ?h188 ?h189 ?h190 ?h191 ?h192 ?h193 ?h194 ?h195 ?h196 ?h197 ?h198 ?h199 ?h200 ?h201 ?h202 ?h203 ?h204 ?h205 ?h206 ?h207 ?h208 ?h209 ?h210 ?h211 ?h212 ?h213 ?h214 ?h215 ?h216 ?h217 ?h218 ?h219 ?h220 ?h221 ?h222 ?h223 ?h224 ?h225 ?h226 ?h227 ?h228 ?h229 ?h230 ?h231 ?h232 ?h233 ?h234 ?h235 ?h236 ?h237 ?h238 ?h239 ?h240 ?h241 ?h242 ?h243 ?h244 ?h245 ?h246 ?h247 ?h248 ?h249 ?h250 ?h251 ?h252 ?h253 ?h254 ?h255 ?h256 ?h257 ?h258 ?h259 ?h260 ?h261 ?h262 ?h263 ?h264 ?h265 ?h266 ?h267 ?h268 ?h269 ?h270 ?h271 ?h272 ?h273 ?h274 ?h275 ?h276 ?h277 ?h278 ?h279 ?h280 ?h281 ?h282 ?h283 ?h284 ?h285 ?h286 ?h287 ?h288 ?h289 ?h290 ?h291 ?h292 ?h293 ?h294 ?h295 ?h296 ?h297 ?h298 ?h299 ?h300 ?h301 ?h302 ?h303 ?h304 ?h305 ?h306 ?h307 ?h308 ?h309 ?h310 ?h311 ?h312 ?h313 ?h314 ?h315 ?h316 ?h317 ?h318 ?h319 ?h320 ?h321 ?h322 ?h323 ?h324 ?h325 ?h326 ?h327 ?h328 ?h329 ?h330 ?h331 ?h332 ?h333 ?h334 ?h335 ?h336 ?h337 ?h338 ?h339 ?h340 ?h341 ?h342 ?h343 ?h344 ?h345 ?h346 ?h347 ?h348 ?h349 ?h350 ?h351 ?h352 ?h353 ?h354 ?h355 ?h356 ?h357 ?h358 ?h359 ?h360 ?h361 ?h362 ?h363 ?h364 ?h365 ?h366 ?h367 ?h368 ?h369 ?h370 ?h371 ?h372 ?h373 ?h374 ?h375 ?h376 ?h377 ?h378 ?h379 ?h380 ?h381 ?h382 ?h383 ?h384 ?h385 ?h386 ?h387 ?h388 ?h389 ?h390 ?h391 ?h392 ?h393 ?h394 ?h395 ?h396 ?h397 ?h398 ?h399 ?h400 ?h401 ?h402 ?h403 ?h404 ?h405 ?h406 ?h407 ?h408 ?h409 ?h410 ?h411 ?h412 ?h413 ?h414 ?h415 ?h416 ?h417 ?h418 ?h419 ?h420 ?h421 ?h422 ?h423 ?h424 ?h425 ?h426 ?h427 ?h428 ?h429 ?h430 ?h431 ?h432 ?h433 ?h434 ?h435 ?h436 ?h437 ?h438 ?h439 ?h440 ?h441 ?h442 ?h443 ?h444 ?h445 ?h446 ?h447 ?h448 ?h449 ?h450 ?h451 ?h452 ?h453 ?h454 ?h455 ?h456 ?h457 ?h458 ?h459 ?h460 ?h461 ?h462 ?h463 ?h464 ?h465 ?h466 ?h467 ?h468 ?h469 ?h470 ?h471 ?h472 ?h473 ?h474 ?h475 ?h476 ?h477 ?h478 ?h479 ?h480 ?h481 ?h482 ?h483 ?h484 ?h485 ?h486 ?h487 ?h488 ?h489 ?h490 ?h491 ?h492 ?h493 ?h494 ?h495 ?h496 ?h497 ?h498 ?h499 ?h500 ?h501) hmg
    (case h1 => k_is); (case h2 => k_is); (case h3 => k_is); (case h4 => k_is); (case h5 => k_is); (case h6 => k_is)
    (case h7 => k_is); (case h8 => k_is); (case h9 => k_is); (case h10 => k_is); (case h11 => k_is); (case h12 => k_is)
    (case h13 => k_is); (case h14 => k_is); (case h15 => k_is); (case h16 => k_is); (case h17 => k_is); (case h18 => k_is)
    (case h19 => k_is); (case h20 => k_is); (case h21 => k_is); (case h22 => k_is); (case h23 => k_is); (case h24 => k_is)
    (case h25 => k_is); (case h26 => k_is); (case h27 => k_is); (case h28 => k_is); (case h29 => k_is); (case h30 => k_is)
    (case h31 => k_is); (case h32 => k_is); (case h33 => k_is); (case h34 => k_is); (case h35 => k_is); (case h36 => k_is)
    (case h37 => k_is); (case h38 => k_is); (case h39 => k_is); (case h40 => k_is); (case h41 => k_is); (case h42 => k_is)
    (case h43 => k_is); (case h44 => k_is); (case h45 => k_is); (case h46 => k_is); (case h47 => k_is); (case h48 => k_is)
    (case h49 => k_is); (case h50 => k_is); (case h51 => k_is); (case h52 => k_is); (case h53 => k_is); (case h54 => k_is)
    (case h55 => k_is); (case h56 => rfl); (case h57 => k_is); (case h58 => k_is); (case h59 => k_is); (case h60 => k_is)
    (case h61 => k_is); (case h62 => k_is); (case h63 => k_is); (case h64 => k_is); (case h65 => rfl); (case h66 => k_is)
    (case h67 => rfl); (case h68 => rfl); (case h69 => k_is); (case h70 => k_is); (case h71 => k_is); (case h72 => k_is)
    (case h73 => k_is); (case h74 => k_is); (case h75 => k_is); (case h76 => k_is); (case h77 => k_is); (case h78 => k_is)
    (case h79 => k_is); (case h80 => k_is); (case h81 => k_is); (case h82 => k_is); (case h83 => k_is); (case h84 => k_is)
    (case h85 => k_is); (case h86 => k_is); (case h87 => k_is); (case h88 => k_is); (case h89 => k_is); (case h90 => k_is)
    (case h91 => k_is); (case h92 => k_is); (case h93 => k_is); (case h94 => k_is); (case h95 => k_is); (case h96 => k_is)
    (case h97 => k_is); (case h98 => k_is); (case h99 => k_is); (case h100 => k_is); (case h101 => k_is); (case h102 => k_is)
    (case h103 => k_is); (case h104 => k_is); (case h105 => k_is); (case h106 => k_is); (case h107 => k_is); (case h108 => k_is)
    (case h109 => k_is); (case h110 => k_is); (case h111 => k_is); (case h112 => k_is); (case h113 => k_is); (case h114 => k_is)
    (case h115 => k_is); (case h116 => k_is); (case h117 => k_is); (case h118 => k_is); (case h119 => k_is); (case h120 => k_is)
    (case h121 => k_is); (case h122 => k_is); (case h123 => k_is); (case h124 => k_is); (case h125 => k_is); (case h126 => k_is)
    (case h127 => k_is); (case h128 => k_is); (case h129 => k_is); (case h130 => k_is); (case h131 => k_is); (case h132 => k_is)
    (case h133 => k_is); (case h134 => k_is); (case h135 => k_is); (case h136 => k_is); (case h137 => k_is); (case h138 => k_is)
    (case h139 => k_is); (case h140 => k_is); (case h141 => k_is); (case h142 => k_is); (case h143 => k_is); (case h144 => k_is)
    (case h145 => k_is); (case h146 => k_is); (case h147 => k_is); (case h148 => k_is); (case h149 => k_is); (case h150 => kernel_rfl)
    (case h151 => k_is); (case h152 => k_is); (case h153 => k_is); (case h154 => k_is); (case h155 => kernel_rfl); (case h156 => k_is)
    (case h157 => k_is); (case h158 => k_is); (case h159 => k_is); (case h160 => k_is); (case h161 => k_is); (case h162 => k_is)
    (case h163 => k_is); (case h164 => kernel_rfl); (case h165 => k_is); (case h166 => k_is); (case h167 => k_is); (case h168 => k_is)
    (case h169 => kernel_rfl); (case h170 => k_is); (case h171 => k_is); (case h172 => k_is); (case h173 => k_is); (case h174 => k_is)
    (case h175 => k_is); (case h176 => k_is); (case h177 => k_is); (case h178 => kernel_rfl); (case h179 => k_is); (case h180 => k_is)
    (case h181 => k_is); (case h182 => k_is); (case h183 => kernel_rfl); (case h184 => k_is); (case h185 => k_is); (case h186 => k_is)
    (case h187 => k_is); (case h188 => k_is); (case h189 => k_is); (case h190 => k_is); (case h191 => k_is); (case h192 => kernel_rfl)
    (case h193 => k_is); (case h194 => k_is); (case h195 => k_is); (case h196 => k_is); (case h197 => kernel_rfl); (case h198 => k_is)
    (case h199 => k_is); (case h200 => k_is); (case h201 => k_is); (case h202 => k_is); (case h203 => k_is); (case h204 => k_is)
    (case h205 => k_is); (case h206 => kernel_rfl); (case h207 => k_is); (case h208 => k_is); (case h209 => k_is); (case h210 => k_is)
    (case h211 => kernel_rfl); (case h212 => k_is); (case h213 => k_is); (case h214 => k_is); (case h215 => k_is); (case h216 => k_is)
    (case h217 => k_is); (case h218 => k_is); (case h219 => k_is); (case h220 => kernel_rfl); (case h221 => k_is); (case h222 => k_is)
    (case h223 => k_is); (case h224 => k_is); (case h225 => kernel_rfl); (case h226 => k_is); (case h227 => k_is); (case h228 => k_is)
    (case h229 => k_is); (case h230 => k_is); (case h231 => k_is); (case h232 => k_is); (case h233 => k_is); (case h234 => kernel_rfl)
    (case h235 => k_is); (case h236 => k_is); (case h237 => k_is); (case h238 => k_is); (case h239 => kernel_rfl); (case h240 => k_is)
    (case h241 => k_is); (case h242 => k_is); (case h243 => k_is); (case h244 => k_is); (case h245 => k_is); (case h246 => k_is)
    (case h247 => k_is); (case h248 => kernel_rfl); (case h249 => k_is); (case h250 => k_is); (case h251 => k_is); (case h252 => k_is)
    (case h253 => kernel_rfl); (case h254 => k_is); (case h255 => k_is); (case h256 => k_is); (case h257 => k_is); (case h258 => k_is)
    (case h259 => k_is); (case h260 => k_is); (case h261 => kernel_rfl); (case h262 => kernel_rfl); (case h263 => kernel_rfl); (case h264 => kernel_rfl)
    (case h265 => kernel_rfl); (case h266 => kernel_rfl); (case h267 => kernel_rfl); (case h268 => kernel_rfl); (case h269 => kernel_rfl); (case h270 => kernel_rfl)
    (case h271 => kernel_rfl); (case h272 => kernel_rfl); (case h273 => kernel_rfl); (case h274 => kernel_rfl); (case h275 => kernel_rfl); (case h276 => kernel_rfl)
    (case h277 => kernel_rfl); (case h278 => kernel_rfl); (case h279 => kernel_rfl); (case h280 => kernel_rfl); (case h281 => kernel_rfl); (case h282 => kernel_rfl)
    (case h283 => kernel_rfl); (case h284 => kernel_rfl); (case h285 => kernel_rfl); (case h286 => kernel_rfl); (case h287 => kernel_rfl); (case h288 => kernel_rfl)
    (case h289 => kernel_rfl); (case h290 => kernel_rfl); (case h291 => kernel_rfl); (case h292 => kernel_rfl); (case h293 => kernel_rfl); (case h294 => kernel_rfl)
    (case h295 => kernel_rfl); (case h296 => kernel_rfl); (case h297 => kernel_rfl); (case h298 => k_is); (case h299 => k_is); (case h300 => k_is)
    (case h301 => k_is); (case h302 => k_is); (case h303 => k_is); (case h304 => k_is); (case h305 => k_is); (case h306 => k_is)
    (case h307 => k_is); (case h308 => k_is); (case h309 => k_is); (case h310 => k_is); (case h311 => k_is); (case h312 => k_is)
    (case h313 => k_is); (case h314 => k_is); (case h315 => k_is); (case h316 => k_is); (case h317 => k_is); (case h318 => k_is)
    (case h319 => k_is); (case h320 => k_is); (case h321 => k_is); (case h322 => k_is); (case h323 => k_is); (case h324 => k_is)
    (case h325 => k_is); (case h326 => k_is); (case h327 => k_is); (case h328 => k_is); (case h329 => k_is); (case h330 => k_is)
    (case h331 => k_is); (case h332 => k_is); (case h333 => k_is); (case h334 => k_is); (case h335 => k_is); (case h336 => k_is)
    (case h337 => k_is); (case h338 => k_is); (case h339 => k_is); (case h340 => k_is); (case h341 => k_is); (case h342 => k_is)
    (case h343 => k_is); (case h344 => k_is); (case h345 => k_is); (case h346 => k_is); (case h347 => k_is); (case h348 => k_is)
    (case h349 => k_is); (case h350 => k_is); (case h351 => k_is); (case h352 => k_is); (case h353 => k_is); (case h354 => k_is)
    (case h355 => k_is); (case h356 => k_is); (case h357 => k_is); (case h358 => k_is); (case h359 => k_is); (case h360 => k_is)
    (case h361 => k_is); (case h362 => k_is); (case h363 => k_is); (case h364 => k_is); (case h365 => k_is); (case h366 => k_is)
    (case h367 => k_is); (case h368 => k_is); (case h369 => k_is); (case h370 => k_is); (case h371 => k_is); (case h372 => k_is)
    (case h373 => k_is); (case h374 => k_is); (case h375 => k_is); (case h376 => k_is); (case h377 => k_is); (case h378 => k_is)
    (case h379 => k_is); (case h380 => k_is); (case h381 => k_is); (case h382 => k_is); (case h383 => k_is); (case h384 => k_is)
    (case h385 => k_is); (case h386 => k_is); (case h387 => k_is); (case h388 => k_is); (case h389 => k_is); (case h390 => k_is)
    (case h391 => k_is); (case h392 => k_is); (case h393 => k_is); (case h394 => k_is); (case h395 => k_is); (case h396 => k_is)
    (case h397 => k_is); (case h398 => k_is); (case h399 => k_is); (case h400 => k_is); (case h401 => k_is); (case h402 => k_is)
    (case h403 => k_is); (case h404 => k_is); (case h405 => k_is); (case h406 => k_is); (case h407 => k_is); (case h408 => k_is)
    (case h409 => k_is); (case h410 => k_is); (case h411 => k_is); (case h412 => k_is); (case h413 => k_is); (case h414 => k_is)
    (case h415 => k_is); (case h416 => k_is); (case h417 => k_is); (case h418 => k_is); (case h419 => k_is); (case h420 => k_is)
    (case h421 => k_is); (case h422 => k_is); (case h423 => k_is); (case h424 => k_is); (case h425 => k_is); (case h426 => k_is)
    (case h427 => k_is); (case h428 => k_is); (case h429 => k_is); (case h430 => k_is); (case h431 => k_is); (case h432 => k_is)
    (case h433 => k_is); (case h434 => k_is); (case h435 => k_is); (case h436 => k_is); (case h437 => k_is); (case h438 => k_is)
    (case h439 => k_is); (case h440 => k_is); (case h441 => k_is); (case h442 => k_is); (case h443 => k_is); (case h444 => k_is)
    (case h445 => k_is); (case h446 => k_is); (case h447 => k_is); (case h448 => k_is); (case h449 => k_is); (case h450 => k_is)
    (case h451 => k_is); (case h452 => k_is); (case h453 => k_is); (case h454 => k_is); (case h455 => k_is); (case h456 => k_is)
    (case h457 => k_is); (case h458 => k_is); (case h459 => k_is); (case h460 => k_is); (case h461 => k_is); (case h462 => k_is)
    (case h463 => k_is); (case h464 => k_is); (case h465 => k_is); (case h466 => k_is); (case h467 => k_is); (case h468 => k_is)
    (case h469 => k_is); (case h470 => k_is); (case h471 => k_is); (case h472 => k_is); (case h473 => k_is); (case h474 => k_is)
    (case h475 => k_is); (case h476 => k_is); (case h477 => k_is); (case h478 => k_is); (case h479 => k_is); (case h480 => k_is)
    (case h481 => k_is); (case h482 => k_is); (case h483 => k_is); (case h484 => k_is); (case h485 => k_is); (case h486 => k_is)
    (case h487 => k_is); (case h488 => k_is); (case h489 => k_is); (case h490 => k_is); (case h491 => rfl); (case h492 => rfl)
    (case h493 => rfl); (case h494 => rfl); (case h495 => rfl); (case h496 => rfl); (case h497 => rfl); (case h498 => rfl)
    (case h500 => exact Y.2 _ (by decide)); (case h501 => kernel_rfl); (case h499 => decide +kernel)

