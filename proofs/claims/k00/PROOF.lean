import PyProof.Rows.All
import Wide.All
import OpenK.AllK
import Wide.FinOn
import HandS.HeadHook4
import HandS.Head0
import HandS.Head1
import HandS.Head2
import HandS.ForMost
import HandS.IsInst
import HandS.Style
import HandS.Evl
import HandS.Defaults
import HandS.Walk
import HandS.Zip
import HandS.ClsMeth
import HandS.Deep
import HandS.ListEq
import HandS.DeepEq
import HandS.RaiseMore
import KE.KFmtOwn
import KE.KDictList
import HandS.FStr
import PyProof.Rows.StrMeet
import HandS.Exc
import HandS.TryMany
import HandS.ExcField
import HandS.ExcInit
import HandS.ExcOwn
import HandS.WordsExc
import HandS.Lambda
import HandS.EndTab
import HandS.Star
import HandS.More
import KE.GoesEnum
import HandS.Set
import HandS.Strs
import PyProof.Rows.SetFrom
import HandS.Small
import HandS.Conv
import PyProof.ListRange
import HandS.ExcIs
import KE.KExcIs
import KE.KExcInit
import PyProof.ExcBaseAll.LookupError
import PyProof.ExcBaseAll.IndexError
import HandS.ExcValue
import HandS.HotCalls
import PySem.Challenge.RW_pooledeyes_k00_errors_by_themselves
set_option Elab.async false
set_option linter.all false
set_option maxRecDepth 100000
/-! The head by one kernel run, ahead of all else: it wants the memory that the rest would hold. -/
namespace EyesHd
open PySem PySem.Spec PyProof.Rows L2
section
local macro_rules | `(tactic| o_head $H:term) => `(tactic| exact False.elim (by assumption))
set_option maxHeartbeats 0 in
theorem k0 (hf : False) : PySem.Challenge.rw_pooledeyes_k00_errors_by_themselves.Holds := by
  w_on; o_law; k_head
end
abbrev RWo : PySem.W.OpenRow := PySem.W.OpenLaw.row PySem.Challenge.rw_pooledeyes_k00_errors_by_themselves
def lawI : Nat := 51
def hq : Program := PySem.W.view RWo.prog [lawI]
def nm0 : List Str := [("PooledError" : Str), ("InvalidName" : Str), ("InvalidNumber" : Str), ("InvalidText" : Str), ("InvalidCircle" : Str), ("InvalidTie" : Str), ("InvalidParting" : Str), ("InvalidCase" : Str), ("InvalidGrant" : Str), ("InvalidBan" : Str), ("InvalidShare" : Str), ("InvalidSaying" : Str), ("InvalidLog" : Str), ("InvalidLot" : Str), ("InvalidEyes" : Str), ("InvalidDeed" : Str), ("InvalidQuestion" : Str), ("TooMany" : Str), ("NotAlike" : Str), ("CommonShown" : Str)]
def nm1 : List Str := [("NotPooled" : Str), ("UnlikeSketches" : Str), ("NotSafe" : Str), ("CannotStand" : Str), ("NameTaken" : Str), ("InUse" : Str), ("Missing" : Str), ("UnknownName" : Str), ("UnknownEye" : Str), ("UnknownGrant" : Str), ("UnknownBan" : Str), ("UnknownShare" : Str), ("UnknownSaying" : Str), ("NothingLeft" : Str), ("_law_bag" : Str), ("_law_draw" : Str), ("_law_of" : Str), ("_law_same" : Str), ("_law_first_kinds" : Str), ("_law_last_kinds" : Str)]
def nm2 : List Str := [("_law_by_place" : Str), ("_law_by_name" : Str), ("_law_fields" : Str), ("_law_fields_due" : Str), ("_law_raise" : Str), ("_law_caught" : Str), ("_law_caught_itself" : Str), ("_law_thing" : Str), ("_law_made_so" : Str)]
def nms : List Str := nm0 ++ nm1 ++ nm2
def lawD : DefRec := HandSHeadRun.topDef RWo.prog lawI
theorem lawD_name : lawD.name = ("law" : Str) := by kernel_rfl
theorem lawD_dfl : lawD.params.defaults = [] := by kernel_rfl
def as0 : List Addr := [2, 3, 15, 22, 23, 24, 25, 28, 35, 37, 38, 40, 41, 42, 43, 44, 47, 54, 56, 57, 59, 60, 61, 62, 63, 66, 73, 75, 76, 78, 79, 80, 81, 82, 85, 92, 94, 95, 97, 98, 99, 100, 101, 104, 111, 113, 114, 116, 117, 118, 119, 120, 123, 130, 132, 133, 135, 136, 137, 138, 139, 142, 149, 151, 152, 154, 155, 156, 157, 158, 161, 168, 170, 171, 173, 174, 175, 176, 177, 180, 187, 189, 190, 192, 193, 194, 195, 196, 199, 206, 208, 209, 211, 212, 213, 214, 215, 218, 225, 227, 228, 230, 231, 232, 233, 234, 237, 244, 246, 247, 249, 250, 251, 252, 253, 256, 263, 265, 266, 268, 269, 270, 271, 272, 275, 282, 283, 284, 287, 294, 296, 297, 299, 300, 301, 302, 303, 306, 313, 314, 315, 318, 325, 327, 328, 330, 331, 332, 333, 334, 337, 344, 346, 347, 349, 350, 351, 352, 353, 356, 363, 365, 366, 368, 369, 370, 371, 372, 375, 382, 383, 384, 387, 394, 395, 396, 399, 406, 408, 409, 411, 412, 413, 414, 415, 418, 425, 427, 428, 430, 431, 432, 433, 434, 437, 444, 446, 447, 449, 450, 451, 452, 453, 456, 463, 465, 466, 468, 469, 470, 471, 472, 475, 482, 483, 484, 485, 488, 495, 497, 498, 500, 501, 502, 503, 504, 507, 514, 516, 517, 519, 520, 521, 522, 523, 526, 533, 535, 536, 538, 539, 540, 541, 542, 545, 552, 554, 555, 557, 558, 559, 560, 561, 564, 571, 573, 574, 576, 577, 578, 579, 580, 583, 590, 592, 593, 595, 596, 597, 598, 599, 602, 609, 610, 611, 612, 615, 617, 618, 620, 621, 622, 624, 625, 627, 628, 629, 631, 632, 634, 635, 636, 639, 640, 641, 643, 644, 646, 647, 648, 650, 651, 653, 654, 655, 657, 658, 660, 661, 662, 664, 665, 667, 668, 669, 671, 672, 674, 675, 676, 678, 679, 681, 682, 683, 685, 686, 688, 689, 690, 692, 693, 695, 696, 697, 699, 700, 702, 703, 704, 706, 707, 709, 710, 711, 714, 715, 716, 718, 719, 721, 722]
noncomputable abbrev hk0 : PySem.W.Hook := PySem.W.kHook EyesHd.k0.heap_39 as0 (fun _ => by kernel_rfl)
noncomputable def ob0 (s : PySem.W.SharedT) : hk0.α := as0.map (HandSHeadRun.getT s)
set_option maxHeartbeats 0 in
theorem run0 (w : World) : HandSHeadRun.RunEq RWo hq hk0 ob0 20000 nms w := by
  intro os
  kernel_rfl
set_option maxHeartbeats 0 in
theorem headq (k1 : RWo.wellSaid = true) (hw : RWo.toRowW.promised) (hc : PySem.W.WalkO hq nms (PySem.W.XL hq []) hk0.says RWo.toRowW lawD [] (fun f vs => PySem.call f vs)) : RWo.Holds :=
  HandSHeadRun.head_any (r := RWo) (q := hq) (H := hk0) (ob := ob0) (M := 20000) (loose := nms) (d := lawD) (kwd := [])
    (fun s => by unfold ob0; rw [show HandSHeadRun.getT s = s.abs.heap.get? from funext (HandSHeadRun.getT_eq s)]; rfl) (by kernel_rfl) (fun s => by kernel_rfl) run0 (by kernel_rfl) (by kernel_rfl) (by kernel_rfl) (by rfl) k1 (by decide +kernel) ⟨rfl, rfl, rfl, rfl, rfl, by decide +kernel⟩ hw hc
end EyesHd

set_option Elab.async false
set_option linter.all false
set_option maxRecDepth 100000
set_option maxHeartbeats 4000000
/-! My own short words: a def of the text with its promise, calls of it. -/
namespace Eyes
open PySem PySem.Spec PyProof.Rows L2
def FnAt (K : PySem.W.Frag) (mg : Str → Option Value) (x : Str) (st : Stmt) (ps : List Str) : Prop :=
  ∃ (f : Addr) (fd : FuncData), Fun K x x st f fd ∧ Binds K fd ps [] ∧ mg x = some (.ref f)
def Pr (P : Program) (w : World) (K : PySem.W.Frag) (mg : Str → Option Value) (base : Heap) (x : Str) (st : Stmt) (ps : List Str) (k : Nat) (sp : Sp) : Prop :=
  ∃ (f : Addr) (fd : FuncData), mg x = some (.ref f) ∧ Fun K x x st f fd ∧ Binds K fd ps [] ∧ FnOk P w K mg base CX0 k f fd ps sp
def InitAt (K : PySem.W.Frag) (C : Addr) (qual : Str) (st : Stmt) (ps : List Str) : Prop :=
  ∃ (f : Addr) (fd : FuncData), Mk K C f ∧ Fun K "__init__" qual st f fd ∧ Binds K fd ps []
def PrI (P : Program) (w : World) (K : PySem.W.Frag) (mg : Str → Option Value) (base : Heap) (C : Addr) (ps : List Str) (k : Nat) (sp : Sp) : Prop :=
  ∃ (f : Addr) (fd : FuncData), Mk K C f ∧ Binds K fd ps [] ∧ FnOk P w K mg base CX0 k f fd ps sp
def MethAt (K : PySem.W.Frag) (C : Addr) (m qual : Str) (st : Stmt) (ps : List Str) : Prop :=
  ∃ (f : Addr) (fd : FuncData), Meth K C m f ∧ Fun K m qual st f fd ∧ Binds K fd ps []
def PrM (P : Program) (w : World) (K : PySem.W.Frag) (mg : Str → Option Value) (base : Heap) (C : Addr) (m : Str) (ps : List Str) (k : Nat) (sp : Sp) : Prop :=
  ∃ (f : Addr) (fd : FuncData), Meth K C m f ∧ Binds K fd ps [] ∧ FnOk P w K mg base CX0 k f fd ps sp
structure ClsY (K : PySem.W.Frag) (C : Addr) : Prop where
  ty1 : PySem.W.findIn K (.ref C) "__class__" = some (some (.builtin "object.__class__"))
  ty2 : PySem.W.specialIn K (.builtin "object.__class__") "__get__" = some (some (.builtin "getset_descriptor.__get__"))
  ty3 : PySem.W.takesIn K (.builtin "object.__class__") = some true
  ty4 : PySem.W.mroIn K C (.type "object") = some true
  k_str : PySem.W.kitOne K (.ref C) (.type "str") = some false
  k_int : PySem.W.kitOne K (.ref C) (.type "int") = some false
  k_bool : PySem.W.kitOne K (.ref C) (.type "bool") = some false
  k_list : PySem.W.kitOne K (.ref C) (.type "list") = some false
  k_tuple : PySem.W.kitOne K (.ref C) (.type "tuple") = some false
  k_dict : PySem.W.kitOne K (.ref C) (.type "dict") = some false
section
variable {P : Program} {w : World} {K : PySem.W.Frag} {mg : Str → Option Value} {base : Heap}
abbrev BindH (x qual : Str) (st : Stmt) (ps : List Str) : Prop := ∀ (kV doc pm : Value) (an : Option Addr) (cdv ct : Value) (us : List Value), us.length = ps.length → bindArgs (PySem.W.fnOf x qual (defArgs st) (defBody st) (defScope st) .none kV doc pm an cdv ct) ⟨us, []⟩ = pure (ps.zip us)
theorem fnAt_mk {h : Heap} (X : K.In h) (G : h.Ns mainGlobals mg) {x : Str} {st : Stmt} {ps : List Str} {f : Addr} {oc : Value} {od an : Option Addr} {osl : Array (Option Value)} {kV doc pm cdv ct : Value} (a : PySem.W.nsIn K mainGlobals x = some (some (.ref f)))
    (l : K.lookup f = some ⟨oc, od, .func (PySem.W.fnOf x x (defArgs st) (defBody st) (defScope st) .none kV doc pm an cdv ct), osl⟩) (c : PySem.W.codeIn K cdv x = true) (k : PySem.W.keepIn K (.ref f) = true) (hb : BindH x x st ps) : FnAt K mg x st ps :=
  ⟨f, _, fun_mk l c k, (fun_mk l c k).binds hb, PySem.W.mg_of X G a⟩
theorem pr_mk {x : Str} {st : Stmt} {N ps : List Str} {k : Nat} {sp : Sp} (A : FnAt K mg x st ps) (S : FnScope N ps (defScope st)) (len : ∀ vs H Q E, sp vs H Q E → vs.length = ps.length)
    (hbody : ∀ (f : Addr) (cdv : Value) (A : Around) (outer : List Env) (s : Shared) (H : Hp) (vs : List V) (Q : VK) (E : XK), Room k (A.deeper (envOfC x (defScope st) s.heap.objs.size f cdv)) → sp vs H Q E →
      ∃ t, PSs (cxOf CX0 P w K mg base N x (defScope st) f cdv A outer s H E).nox (defBody st) t ∧ t { nx := fun _ H' => Q .non H', rt := Q } (start N vs) H) : Pr P w K mg base x st ps (k + 1) sp := by
  obtain ⟨f, fd, F, hb, hm⟩ := A
  exact ⟨f, fd, hm, F, hb, F.ok S len fun cdv A outer s H vs Q E hr h => hbody f cdv A outer s H vs Q E hr h⟩
end
def pick {α : Type} (is : List Nat) (xs : List α) : List α := is.filterMap fun i => xs[i]?
theorem pick_vals {vs : List V} {us : List Value} (r : Vals vs us) : ∀ is : List Nat, Vals (pick is vs) (pick is us)
  | [] => .nil
  | i :: is => by
    unfold pick
    rw [List.filterMap_cons, List.filterMap_cons]
    cases h : vs[i]? with
    | none =>
      rw [r.none_of h]
      exact pick_vals r is
    | some v =>
      obtain ⟨u, hu, rv⟩ := r.get h
      rw [hu]
      exact .cons rv (pick_vals r is)
section
variable {X : Cx} {x : Str} {st : Stmt} {ps : List Str} {sp : Sp} {e : Expr} {es : List Expr} {kws : List Keyword} {p pos : Pos} {t tk : TA}
theorem pcall {j k : Nat} (G : Pr X.prog X.w X.K X.mg X.base x st ps j sp) (hr : Room k X.A) (ha : PA X (e :: es) t) (hj : j ≤ k := by first | decide | omega) (hg : Gl X x := by rfl)
    (hdb : (x == ("__debug__" : Str)) = false := by decide) (he : starEach (e :: es) X.env = (false, eval e X.env) :: starEach es X.env := by rfl) (hpl : (backTo pos (starEach es X.env)).any (·.1) = false := by rfl) :
    PE X (.Call (.Name x p) (e :: es) [] pos) (tCall sp [] (fun _ _ _ => False) t) := by
  obtain ⟨f, fd, hm, F0, hb, F⟩ := G
  exact pe_call F (hr.mono hj) hg hm F0.kp hb .nil (fun _ _ _ _ _ _ _ h => h.elim) ha hdb he hpl
def KwOk (x : Str) (st : Stmt) (ps : List Str) (n : Nat) (ks : List Str) (is : List Nat) : Prop :=
  ∀ (kV doc pm : Value) (an : Option Addr) (cdv ct : Value) (us ws : List Value), us.length = n → ws.length = ks.length → bindArgs (PySem.W.fnOf x x (defArgs st) (defBody st) (defScope st) .none kV doc pm an cdv ct) ⟨us, ks.zip ws⟩ = pure (ps.zip (pick is (us ++ ws)))
end
end Eyes

set_option Elab.async false
set_option linter.all false
set_option maxRecDepth 100000
set_option maxHeartbeats 4000000
/-! Rules of my own: operators, str() and f-strings of own instances; list(d.values()). -/
namespace Eyes
open PySem PySem.Spec PyProof.Rows L2
section
variable {X : Cx} {CX : CXT} {k : Nat} {f : Addr} {fd : FuncData} {ps : List Str} {sp : Sp} {E : XK}
end
def rOwnB (C : Addr) (sp : Sp) : R2 := fun x y H Q => ∃ a b dx dy fs gs, x = .ref a ∧ y = .ref b ∧ H a = some (.ins C dx fs) ∧ H b = some (.ins C dy gs) ∧ sp [.ref a, .ref b] H Q (fun _ _ _ => False)
def rOwnStr (C : Addr) (sp : Sp) : List V → Hp → VK → Prop := fun xs H Q => ∃ a dx fs, xs = [.ref a] ∧ H a = some (.ins C dx fs) ∧ sp [.ref a] H (fun v H' => ∃ z, v = .str z ∧ Q v H') (fun _ _ _ => False)
section
variable {X : Cx} {C : Addr} {j k : Nat} {ps : List Str} {sp : Sp} {nm : Str}
end
section
variable {X : Cx} {C : Addr} {j k : Nat} {ps : List Str} {sp : Sp} {m : Str} {o e : Expr} {es : List Expr} {apos pos : Pos} {ta : TE} {t : TA}
end
def tListVals (te : TE) : TE := fun σ H Q => te σ H fun x H1 => ∃ (d : Addr) (kvs : List (Key × V)), x = .ref d ∧ H1 d = some (.dK kvs) ∧ ∀ l, H1 l = none → Q (.ref l) (upd H1 l (.lst (kvs.map (·.2))))
section
variable {X : Cx} {e : Expr} {te : TE} {p apos cpos pos : Pos}
end
section
variable {X : Cx} {K : PySem.W.Frag}
theorem ix_listK (hK : X.K = K) : IxR X (rIxL K) := by
  subst hK
  exact ix_list
theorem ix_seqK (hK : X.K = K) : IxR X (rIx K) := by
  subst hK
  exact ix_seq
end
section
variable {X : Cx} {K : PySem.W.Frag}
theorem op_in_seqK (hK : X.K = K) : OpR X (compareOp .In) (rIn K false) := by
  subst hK
  exact op_in_seq
end
end Eyes

set_option Elab.async false
set_option linter.all false
set_option maxRecDepth 100000
set_option maxHeartbeats 4000000
/-! Circles as data: texts, sizes, depths; how they are built; how they stand in the heap. -/
namespace Eyes
open PySem PySem.Spec PyProof.Rows L2 Evl TL
inductive Ci where
  | eye (n : Str)
  | node (k : Bool) (ps : List Ci)
def sepS : Bool → Str | true => " & " | false => " | "
def kindS : Bool → Str | true => "pool" | false => "common"
def wrapL (c : Ci) (t : List Nat) : List Nat := match c with
  | .eye _ => t
  | .node _ _ => 40 :: (t ++ [41])
mutual
def Ci.tx : Ci → List Nat
  | .eye n => tl n
  | .node k ps => joinL (tl (sepS k)) (inns ps)
def inns : List Ci → List (List Nat)
  | [] => []
  | c :: r => wrapL c c.tx :: inns r
end
mutual
def Ci.size : Ci → Nat
  | .eye _ => 1
  | .node _ ps => sizes ps
def sizes : List Ci → Nat
  | [] => 0
  | c :: r => c.size + sizes r
end
mutual
def Ci.depth : Ci → Nat
  | .eye _ => 0
  | .node _ ps => 1 + depths ps
def depths : List Ci → Nat
  | [] => 0
  | c :: r => max c.depth (depths r)
end
def Ci.str (c : Ci) : Str := ⟨c.tx.toArray⟩
def Ci.kind : Ci → Str | .eye _ => "eye" | .node k _ => kindS k
def Ci.name : Ci → Str | .eye n => n | .node _ _ => ""
def Ci.parts : Ci → List Ci | .eye _ => [] | .node _ ps => ps
def Ci.isK (k : Bool) : Ci → Bool | .eye _ => false | .node j _ => j == k
/-! ### building -/
def flat (k : Bool) : List Ci → List Ci
  | [] => []
  | c :: r => (if c.isK k = true then c.parts else [c]) ++ flat k r
def dd : List Ci → List Ci → List Ci
  | acc, [] => acc
  | acc, c :: r => if acc.any (fun d => decide (d.str = c.str)) = true then dd acc r else dd (acc ++ [c]) r
def wrapK (k : Bool) : List Ci → Ci
  | [c] => c
  | ps => .node k ps
def mkC (k : Bool) (cs : List Ci) : Ci := wrapK k (dd [] (flat k cs))
/-! ### what is well made: names of letters, two parts or more -/
def nm (n : Str) : Prop := 1 ≤ n.length ∧ n.length ≤ 6 ∧ ∀ x ∈ tl n, 97 ≤ x ∧ x ≤ 122
mutual
def Ci.ok : Ci → Prop
  | .eye n => nm n
  | .node _ ps => 2 ≤ ps.length ∧ oks ps
def oks : List Ci → Prop
  | [] => True
  | c :: r => c.ok ∧ oks r
end
theorem oks_mem : ∀ {ps : List Ci}, oks ps ↔ ∀ c ∈ ps, c.ok
  | [] => ⟨fun _ _ h => (nomatch h), fun _ => True.intro⟩
  | c :: r => by
    show c.ok ∧ oks r ↔ _
    rw [oks_mem (ps := r)]
    constructor
    · rintro ⟨h1, h2⟩ d hd
      rcases List.mem_cons.mp hd with rfl | hd
      · exact h1
      · exact h2 d hd
    · intro h
      exact ⟨h c List.mem_cons_self, fun d hd => h d (List.mem_cons_of_mem _ hd)⟩
mutual
theorem Ci.size_pos : ∀ c : Ci, c.ok → 1 ≤ c.size
  | .eye n, _ => Nat.le_refl _
  | .node k ps, h => Nat.le_trans (Nat.le_trans (by decide) h.1) (sizes_len ps h.2)
theorem sizes_len : ∀ ps : List Ci, oks ps → ps.length ≤ sizes ps
  | [], _ => Nat.zero_le _
  | c :: r, h => by
    have h1 := Ci.size_pos c h.1
    have h2 := sizes_len r h.2
    show r.length + 1 ≤ c.size + sizes r
    omega
end
/-! ### in the heap -/
def flds (kind name : Str) (l : Addr) (s d : Int) (t : Str) : List (Str × V) :=
  putF "_text" (.str t) (putF "depth" (.int d) (putF "size" (.int s) (putF "_parts" (.ref l) (putF "name" (.str name) (putF "kind" (.str kind) [])))))
section
variable {kind name t : Str} {l : Addr} {s d : Int}
end
mutual
inductive CiAt (C : Addr) (H : Hp) : V → Ci → Prop
  | mk {p dx l : Addr} {vs : List V} {c : Ci} {ps : List Ci} : ps = c.parts → H p = some (.ins C dx (flds c.kind c.name l c.size c.depth c.str)) → H l = some (.lst vs) → CisAt C H vs ps → CiAt C H (.ref p) c
inductive CisAt (C : Addr) (H : Hp) : List V → List Ci → Prop
  | nil : CisAt C H [] []
  | cons {v : V} {vs : List V} {c : Ci} {cs : List Ci} : CiAt C H v c → CisAt C H vs cs → CisAt C H (v :: vs) (c :: cs)
end
mutual
theorem CiAt.mono {C : Addr} {H H' : Hp} (e : Ex H H') : ∀ {v : V} {c : Ci}, CiAt C H v c → CiAt C H' v c
  | _, _, .mk h0 h1 h2 h3 => .mk h0 (e _ _ h1) (e _ _ h2) (CisAt.mono e h3)
theorem CisAt.mono {C : Addr} {H H' : Hp} (e : Ex H H') : ∀ {vs : List V} {cs : List Ci}, CisAt C H vs cs → CisAt C H' vs cs
  | _, _, .nil => .nil
  | _, _, .cons h r => .cons (CiAt.mono e h) (CisAt.mono e r)
end
section
variable {C : Addr} {H : Hp}
theorem CisAt.length : ∀ {vs : List V} {cs : List Ci}, CisAt C H vs cs → vs.length = cs.length
  | _, _, .nil => rfl
  | _, _, .cons _ r => congrArg Nat.succ (CisAt.length r)
theorem CisAt.get : ∀ {vs : List V} {cs : List Ci} {i : Nat} {v : V}, CisAt C H vs cs → vs[i]? = some v → ∃ c, cs[i]? = some c ∧ CiAt C H v c
  | _, _, _, _, .nil, e => by simp at e
  | _, _, 0, _, .cons h _, e => by
    simp at e
    subst e
    exact ⟨_, rfl, h⟩
  | _, _, i + 1, v, .cons _ r, e => by
    obtain ⟨c, h1, h2⟩ := CisAt.get (i := i) (v := v) r (by simpa using e)
    exact ⟨c, by simpa using h1, h2⟩
theorem CisAt.append : ∀ {vs ws : List V} {cs ds : List Ci}, CisAt C H vs cs → CisAt C H ws ds → CisAt C H (vs ++ ws) (cs ++ ds)
  | _, _, _, _, .nil, s => s
  | _, _, _, _, .cons h r, s => .cons h (CisAt.append r s)
theorem CisAt.one {v : V} {c : Ci} (h : CiAt C H v c) : CisAt C H [v] [c] := .cons h .nil
theorem CiAt.at_ {v : V} {c : Ci} (h : CiAt C H v c) : ∃ p dx l vs, v = .ref p ∧ H p = some (.ins C dx (flds c.kind c.name l c.size c.depth c.str)) ∧ H l = some (.lst vs) ∧ CisAt C H vs c.parts := by
  cases h with
  | mk h0 h1 h2 h3 =>
    subst h0
    exact ⟨_, _, _, _, rfl, h1, h2, h3⟩
end
/-! ### facts about building -/
theorem dd_sub : ∀ {acc cs : List Ci} {d : Ci}, d ∈ dd acc cs → d ∈ acc ∨ d ∈ cs
  | acc, [], d, h => .inl h
  | acc, e :: r, d, h => by
    unfold dd at h
    by_cases g : acc.any (fun d => decide (d.str = e.str)) = true
    · rw [if_pos g] at h
      exact (dd_sub h).imp_right (List.mem_cons_of_mem _)
    · rw [if_neg g] at h
      rcases dd_sub h with h | h
      · rcases List.mem_append.mp h with h | h
        · exact .inl h
        · rw [List.mem_singleton.mp h]
          exact .inr List.mem_cons_self
      · exact .inr (List.mem_cons_of_mem _ h)
theorem dd_ge : ∀ {acc cs : List Ci}, acc.length ≤ (dd acc cs).length
  | acc, [] => Nat.le_refl _
  | acc, e :: r => by
    unfold dd
    by_cases g : acc.any (fun d => decide (d.str = e.str)) = true
    · rw [if_pos g]
      exact dd_ge
    · rw [if_neg g]
      have := dd_ge (acc := acc ++ [e]) (cs := r)
      rw [List.length_append, List.length_singleton] at this
      omega
theorem dd_ne {cs : List Ci} (h : cs ≠ []) : dd [] cs ≠ [] := by
  cases cs with
  | nil => exact absurd rfl h
  | cons e r =>
    have := dd_ge (acc := [e]) (cs := r)
    intro g
    have g2 : dd [e] r = [] := g
    rw [g2] at this
    exact absurd this (by simp)
def Ci.fine (c : Ci) : Prop := c.ok ∧ c.size ≤ 60
theorem sizes_mem : ∀ {ps : List Ci} {c : Ci}, c ∈ ps → c.size ≤ sizes ps
  | d :: r, c, h => by
    show c.size ≤ d.size + sizes r
    rcases List.mem_cons.mp h with rfl | h
    · omega
    · have := sizes_mem h
      omega
theorem parts_fine {c d : Ci} (h : c.fine) (hd : d ∈ c.parts) : d.fine := by
  cases c with
  | eye n => exact absurd hd (by intro h; cases h)
  | node k ps =>
    have hd : d ∈ ps := hd
    have h2 : sizes ps ≤ 60 := h.2
    exact ⟨oks_mem.mp h.1.2 d hd, Nat.le_trans (sizes_mem hd) h2⟩
theorem flat_fine {k : Bool} : ∀ {cs : List Ci}, (∀ c ∈ cs, c.fine) → ∀ d ∈ flat k cs, d.fine
  | [], _, d, hd => by cases hd
  | c :: r, h, d, hd => by
    unfold flat at hd
    rcases List.mem_append.mp hd with hd | hd
    · by_cases g : c.isK k = true
      · rw [if_pos g] at hd
        exact parts_fine (h c List.mem_cons_self) hd
      · rw [if_neg g] at hd
        rw [List.mem_singleton.mp hd]
        exact h c List.mem_cons_self
    · exact flat_fine (fun e he => h e (List.mem_cons_of_mem _ he)) d hd
theorem flat_ne {k : Bool} {cs : List Ci} (hf : ∀ c ∈ cs, c.ok) (h : cs ≠ []) : flat k cs ≠ [] := by
  cases cs with
  | nil => exact absurd rfl h
  | cons c r =>
    intro g
    have g2 : (if c.isK k = true then c.parts else [c]) = [] := (List.append_eq_nil_iff.mp g).1
    by_cases e : c.isK k = true
    · rw [if_pos e] at g2
      have := hf c List.mem_cons_self
      cases c with
      | eye n => cases e
      | node j ps =>
        have h2 : 2 ≤ ps.length := this.1
        have g2 : ps = [] := g2
        rw [g2] at h2
        exact absurd h2 (by decide)
    · rw [if_neg e] at g2
      cases g2
def pts (k : Bool) (cs : List Ci) : List Ci := dd [] (flat k cs)
theorem mkC_one {k : Bool} {cs : List Ci} {c : Ci} (h : pts k cs = [c]) : mkC k cs = c := by
  show wrapK k (pts k cs) = c
  rw [h]
  rfl
theorem mkC_more {k : Bool} {cs : List Ci} (h : (pts k cs).length ≠ 1) : mkC k cs = .node k (pts k cs) := by
  show wrapK k (pts k cs) = _
  generalize pts k cs = l at h
  match l, h with
  | [], _ => rfl
  | [c], h => exact absurd rfl h
  | c :: d :: r, _ => rfl
structure Good (k : Bool) (cs : List Ci) : Prop where
  ne : cs ≠ []
  fine : ∀ c ∈ cs, c.fine
  few : cs.length ≤ 1400
  size : (mkC k cs).size ≤ 60
  depth : (mkC k cs).depth ≤ 20
theorem Good.pts_ne {k : Bool} {cs : List Ci} (g : Good k cs) : pts k cs ≠ [] := dd_ne (flat_ne (fun c hc => (g.fine c hc).1) g.ne)
theorem Good.pts_fine {k : Bool} {cs : List Ci} (g : Good k cs) : ∀ c ∈ pts k cs, c.fine := fun c hc => by
  rcases dd_sub hc with h | h
  · cases h
  · exact flat_fine g.fine c h
theorem Good.ok {k : Bool} {cs : List Ci} (g : Good k cs) : (mkC k cs).fine := by
  refine ⟨?_, g.size⟩
  by_cases h : (pts k cs).length = 1
  · obtain ⟨c, hc⟩ := List.length_eq_one_iff.mp h
    rw [mkC_one hc]
    exact (g.pts_fine c (by rw [hc]; exact List.mem_cons_self)).1
  · rw [mkC_more h]
    refine ⟨?_, oks_mem.mpr fun c hc => (g.pts_fine c hc).1⟩
    have := List.length_pos_iff.mpr g.pts_ne
    omega
end Eyes

set_option Elab.async false
set_option linter.all false
set_option maxRecDepth 100000
set_option maxHeartbeats 4000000
/-! A text tells its circle. -/
namespace Eyes
open PySem PySem.Spec PyProof.Rows L2 Evl TL
def scan : Nat → List Nat → List Nat → List Nat × List Nat
  | _, acc, [] => (acc, [])
  | d, acc, x :: r => if x = 40 then scan (d + 1) (acc ++ [x]) r else if x = 41 then scan (d - 1) (acc ++ [x]) r else if x = 32 ∧ d = 0 then (acc, x :: r) else scan d (acc ++ [x]) r
def Itm (p : List Nat) : Prop := ∀ d acc r, scan d acc (p ++ r) = scan d (acc ++ p) r
theorem Itm.all {p : List Nat} (h : Itm p) : scan 0 [] p = (p, []) := by
  have := h 0 [] []
  rw [List.append_nil] at this
  exact this
end Eyes

set_option Elab.async false
set_option linter.all false
set_option maxRecDepth 100000
set_option maxHeartbeats 4000000
/-! Circles as the laws write them: tuples within tuples. -/
namespace Eyes
open PySem PySem.Spec PyProof.Rows L2 Evl TL
mutual
def Ci.data : Ci → PyData
  | .eye n => .tuple [.str "eye", .str n]
  | .node k ps => .tuple [.str (kindS k), .tuple (datas ps)]
def datas : List Ci → List PyData
  | [] => []
  | c :: r => c.data :: datas r
end
def dl : List Ci → List Ci → List Ci
  | acc, [] => acc
  | acc, c :: r => if (datas acc).any (fun z => PyData.eqv z c.data) = true then dl acc r else dl (acc ++ [c]) r
end Eyes

set_option Elab.async false
set_option linter.all false
set_option maxRecDepth 100000
set_option maxHeartbeats 4000000
/-! Normal circles: what joining gives, and what signs build. -/
namespace Eyes
open PySem PySem.Spec PyProof.Rows L2 Evl TL
mutual
def Ci.norm : Ci → Prop
  | .eye n => nm n
  | .node k ps => 2 ≤ ps.length ∧ (∀ c ∈ ps, c.isK k = false) ∧ ps.Nodup ∧ norms ps
def norms : List Ci → Prop
  | [] => True
  | c :: r => c.norm ∧ norms r
end
def some_of (k : Bool) : List Ci → Ci
  | [c] => c
  | ps => .node k ps
end Eyes

set_option Elab.async false
set_option linter.all false
set_option maxRecDepth 100000
/-! The eyes of a circle: leaves, sorted lists of texts. -/
namespace Eyes
open PySem PySem.Spec PyProof.Rows L2 Evl TL
mutual
def Ci.leaves : Ci → List Str
  | .eye n => [n]
  | .node _ ps => leavess ps
def leavess : List Ci → List Str
  | [] => []
  | c :: r => c.leaves ++ leavess r
end
mutual
theorem Ci.leaves_len : ∀ c : Ci, c.leaves.length = c.size
  | .eye _ => rfl
  | .node _ ps => leavess_len ps
theorem leavess_len : ∀ ps : List Ci, (leavess ps).length = sizes ps
  | [] => rfl
  | c :: r => by
    show (c.leaves ++ leavess r).length = c.size + sizes r
    rw [List.length_append, Ci.leaves_len c, leavess_len r]
end
mutual
theorem Ci.leaves_ne : ∀ c : Ci, c.ok → c.leaves ≠ []
  | .eye _, _ => by intro h; cases h
  | .node _ ps, h => by
    intro e
    have h1 := Ci.leaves_len (.node true ps)
    have h2 := sizes_len ps h.2
    have h3 : 2 ≤ ps.length := h.1
    have e : leavess ps = [] := e
    have h1 : (leavess ps).length = sizes ps := h1
    rw [e, List.length_nil] at h1
    omega
end
def IsEyes (c : Ci) (ys : List Str) : Prop := sortedS ys = true ∧ ys.Nodup ∧ ∀ y, y ∈ ys ↔ y ∈ c.leaves
theorem nodup_le {α : Type} [DecidableEq α] : ∀ {a b : List α}, a.Nodup → (∀ y ∈ a, y ∈ b) → a.length ≤ b.length
  | [], _, _, _ => Nat.zero_le _
  | x :: r, b, n, h => by
    obtain ⟨nx, nr⟩ := List.nodup_cons.mp n
    have hx : x ∈ b := h x List.mem_cons_self
    have := nodup_le (a := r) (b := b.erase x) nr fun y hy => (List.mem_erase_of_ne (by intro e; exact nx (e ▸ hy))).mpr (h y (List.mem_cons_of_mem _ hy))
    rw [List.length_erase_of_mem hx] at this
    have : 0 < b.length := List.length_pos_of_mem hx
    rw [List.length_cons]
    omega
theorem IsEyes.len {c : Ci} {ys : List Str} (h : IsEyes c ys) : ys.length ≤ c.size := by
  rw [← Ci.leaves_len]
  exact nodup_le h.2.1 fun y hy => (h.2.2 y).1 hy
theorem IsEyes.ne {c : Ci} {ys : List Str} (h : IsEyes c ys) (hc : c.ok) : ys ≠ [] := by
  intro e
  subst e
  have := Ci.leaves_ne c hc
  cases hl : c.leaves with
  | nil => exact this hl
  | cons y r => exact absurd ((h.2.2 y).2 (by rw [hl]; exact List.mem_cons_self)) (by simp)
end Eyes

set_option Elab.async false
set_option linter.all false
set_option maxRecDepth 100000
set_option maxHeartbeats 4000000
/-! try with several clauses that name what they catch. -/
namespace Eyes
open PySem PySem.Spec PyProof.Rows L2
def endsAs (D : Ends) (j : Nat) : Ends := { nx := fun τ G => D.nx (τ.set j none) G, rt := D.rt, bk := fun τ G => D.bk (τ.set j none) G, ct := fun τ G => D.ct (τ.set j none) G }
def wAll (K : PySem.W.Frag) (D : Ends) : List (Value × Nat × (Addr → Value → Option Addr → TS)) → WX
  | [] => fun _ _ _ _ => False
  | (c, j, ts) :: r => fun cls d τ G => ∃ y, PySem.W.exmOne K cls c = some y ∧ (y = true → ∀ e, G e = none → ts e cls d (endsAs D j) (τ.set j (some (.ref e))) G) ∧ (y = false → wAll K D r cls d τ G)
inductive HdsAs (X : Cx) : List ExceptHandler → List (Value × Nat × (Addr → Value → Option Addr → TS)) → Prop
  | rest {hds : List ExceptHandler} : HdsAs X hds []
  | cons {x n : Str} {c : Value} {j : Nat} {ts : Addr → Value → Option Addr → TS} {st0 : Stmt} {sts : List Stmt} {p1 p2 : Pos} {hds : List ExceptHandler} {l : List (Value × Nat × (Addr → Value → Option Addr → TS))} (hc : Names X x c) (hi : X.N[j]? = some n) (hl : X.env.kindOf n = some .local)
      (su : ∀ (e : Addr) (oe : Obj) (cls : Value) (d : Option Addr) (pn : List (Addr × Obj)), Zc cls d oe → (∃ fs, oe.data = .fields fs) → PSs (X.suite e ((e, oe) :: pn)) (st0 :: sts) (ts e cls d)) (r : HdsAs X hds l) :
      HdsAs X (.ExceptHandler (some (.Name x p1)) (some n) (st0 :: sts) p2 :: hds) ((c, j, ts) :: l)
section
variable {X : Cx} {body : List Stmt} {h1 : ExceptHandler} {hds : List ExceptHandler} {l : List (Value × Nat × (Addr → Value → Option Addr → TS))} {pos : Pos} {tb : WX → TS}
end
end Eyes

set_option Elab.async false
set_option linter.all false
set_option maxRecDepth 100000
set_option maxHeartbeats 4000000
/-! Defs that may raise an own error; own errors that bear what they are given. -/
namespace Eyes
open PySem PySem.Spec PyProof.Rows L2
def PrX (P : Program) (w : World) (K : PySem.W.Frag) (mg : Str → Option Value) (base : Heap) (x : Str) (st : Stmt) (ps : List Str) (k : Nat) (sp : Sp) : Prop :=
  ∃ (f : Addr) (fd : FuncData), mg x = some (.ref f) ∧ Fun K x x st f fd ∧ Binds K fd ps [] ∧ FnOk P w K mg base (L2.CX P w) k f fd ps sp
section
variable {P : Program} {w : World} {K : PySem.W.Frag} {mg : Str → Option Value} {base : Heap}
theorem prx_mk {x : Str} {st : Stmt} {N ps : List Str} {k : Nat} {sp : Sp} (A : FnAt K mg x st ps) (S : FnScope N ps (defScope st)) (len : ∀ vs H Q E, sp vs H Q E → vs.length = ps.length)
    (hbody : ∀ (f : Addr) (cdv : Value) (A : Around) (outer : List Env) (s : Shared) (H : Hp) (vs : List V) (Q : VK) (E : XK), Room k (A.deeper (envOfC x (defScope st) s.heap.objs.size f cdv)) → sp vs H Q E →
      Takes (cxOf (L2.CX P w) P w K mg base N x (defScope st) f cdv A outer s H E) (fun cls d _ G => E cls d G) →
      ∃ t, PSs (cxOf (L2.CX P w) P w K mg base N x (defScope st) f cdv A outer s H E) (defBody st) t ∧ t { nx := fun _ H' => Q .non H', rt := Q } (start N vs) H) : PrX P w K mg base x st ps (k + 1) sp := by
  obtain ⟨f, fd, F, hb, hm⟩ := A
  exact ⟨f, fd, hm, F, hb, F.okX S len fun cdv A outer s H vs Q E hr h => hbody f cdv A outer s H vs Q E hr h (takes_of rfl rfl rfl rfl)⟩
end
section
variable {X : Cx} {x : Str} {st : Stmt} {ps : List Str} {sp : Sp} {e : Expr} {es : List Expr} {kws : List Keyword} {p pos : Pos} {t tk : TA} {W : WX}
theorem pcallX {j k : Nat} (G : PrX X.prog X.w X.K X.mg X.base x st ps j sp) (hr : Room k X.A) (tk : Takes X W) (ha : PA X (e :: es) t) (hj : j ≤ k := by first | decide | omega) (hg : Gl X x := by rfl)
    (hdb : (x == ("__debug__" : Str)) = false := by decide) (he : starEach (e :: es) X.env = (false, eval e X.env) :: starEach es X.env := by rfl) (hpl : (backTo pos (starEach es X.env)).any (·.1) = false := by rfl) :
    PE X (.Call (.Name x p) (e :: es) [] pos) (tCallS sp (WE W) t) := by
  obtain ⟨f, fd, hm, F0, hb, F⟩ := G
  exact pe_callS F (hr.mono hj) hg hm F0.kp hb (fun σ => passAt tk σ) ha hdb he hpl
end
/-! ### own errors -/
structure ErrAt (K : PySem.W.Frag) (mg : Str → Option Value) (x : Str) (C : Addr) (qual : Str) (st : Stmt) (ps : List Str) : Prop where
  gC : mg x = some (.ref C)
  oex : OexC K C
  xf : XfC K C
  fn : ∃ (f : Addr) (fd : FuncData), PySem.W.findIn K (.ref C) "__init__" = some (some (.ref f)) ∧ PySem.W.typeIn K (.ref f) = some (.type "function") ∧ Fun K "__init__" qual st f fd ∧ Binds K fd ps []
theorem errAt_mk {K : PySem.W.Frag} {h : Heap} {mg : Str → Option Value} (X : K.In h) (G : h.Ns mainGlobals mg) {x qual : Str} {C f : Addr} {st : Stmt} {ps : List Str} {oc : Value} {od an : Option Addr} {osl : Array (Option Value)} {kV doc pm cdv ct : Value}
    {nm q : Str} {N : Addr} {bs bm sub : List Value} {sn : List Str} {ab : Bool} {col : Option Bool} {dd : Option Addr} {k0 k1 k2 k3 k5 : Option Value}
    (a : PySem.W.nsIn K mainGlobals x = some (some (.ref C))) (c1 : K.lookup C = some (excClassObj nm q C N bs bm true sn sub ab col dd k0 k1 k2 k3 k5 "ValueError.__new__")) (c2 : PySem.HandSPX.refsVE bm = true)
    (c3 : PySem.W.findIn K (.ref C) "__setattr__" = some (some (.builtin "object.__setattr__"))) (c4 : PySem.W.subIn K (.ref C) (.type "BaseException") = some true) (c5 : PySem.W.typeIn K (.ref C) = some (.type "type")) (c6 : PySem.W.keepIn K (.ref C) = true)
    (c7 : xfB K C = true) (i1 : PySem.W.findIn K (.ref C) "__init__" = some (some (.ref f))) (i2 : PySem.W.typeIn K (.ref f) = some (.type "function"))
    (l : K.lookup f = some ⟨oc, od, .func (PySem.W.fnOf "__init__" qual (defArgs st) (defBody st) (defScope st) .none kV doc pm an cdv ct), osl⟩) (c : PySem.W.codeIn K cdv qual = true) (k : PySem.W.keepIn K (.ref f) = true) (hb : BindH "__init__" qual st ps) : ErrAt K mg x C qual st ps :=
  ⟨PySem.W.mg_of X G a, ⟨⟨_, _, _, _, _, _, _, _, _, _, _, _, _, _, _, c1, c2⟩, c3, c4, c5, c6⟩, xfB_ok c7, f, _, i1, i2, fun_mk l c k, (fun_mk l c k).binds hb⟩
def spErr1 (C : Addr) (g : Str) : Sp := fun vs H Q _ => ∃ (a : Addr) (v : V), vs = [.ref a, v] ∧ H a = some (exo a C none) ∧ ∀ d, H d = none → d ≠ a → Q .non (upd (upd H d (exd d [(g, v)])) a (exo a C (some d)))
section
variable {X : Cx} {W : WX} {e : Expr} {ta : TA} {p pos pos2 : Pos} {x g qual : Str} {C : Addr} {st : Stmt} {ps : List Str} {j k : Nat}
end
end Eyes

set_option Elab.async false
set_option linter.all false
set_option maxRecDepth 100000
set_option maxHeartbeats 4000000
/-! Lambdas handed on through several defs. -/
namespace Eyes
open PySem PySem.Spec PyProof.Rows L2 LamX
def CallF (P : Program) (w : World) (K : PySem.W.Frag) (mg : Str → Option Value) (base : Heap) (k : Nat) (fr : List Addr) (H0 : Hp) (h0 : Heap) (f c' : Addr) (q : Str) (tl : XK → Hp → VK → Prop) : Prop :=
  ∀ (A : Around) (outer : List Env) (s1 : Shared) (HZ : Hp) (Q : VK) (E : XK), Room (k + 1) A → Env0 P w K mg base A outer s1 HZ → Un fr [] H0 HZ h0 s1.heap → HZ c' = some (CodeO c' q) → tl E HZ Q →
    PySem.W.FnAt f s1.heap ∧ codeAny (model P w) A (.call (.ref f) ⟨[], []⟩) (CR (L2.CX P w) outer P w HZ s1 Q E) s1
section
variable {X : Cx} {pins : List (Addr × Obj)} {σ : L2.St} {H : Hp} {s : Shared}
end
def FnC (P : Program) (w : World) (K : PySem.W.Frag) (mg : Str → Option Value) (base : Heap) (kk k : Nat) (g : Addr) (TT : (XK → Hp → VK → Prop) → Hp → VK → Prop) : Prop :=
  ∀ (A : Around) (outer : List Env) (s : Shared) (H : Hp) (f c' : Addr) (q : Str) (tl : XK → Hp → VK → Prop) (Q : VK), Room k A → Env0 P w K mg base A outer s H → CallF P w K mg base kk (frs outer) H s.heap f c' q tl → H c' = some (CodeO c' q) → TT tl H Q →
    codeAny (model P w) A (.call (.ref g) ⟨[.ref f], []⟩) (CR C8.CX0 outer P w H s Q C8.E0) s
def PrC (P : Program) (w : World) (K : PySem.W.Frag) (mg : Str → Option Value) (base : Heap) (x : Str) (kk k : Nat) (TT : (XK → Hp → VK → Prop) → Hp → VK → Prop) : Prop :=
  ∃ g : Addr, mg x = some (.ref g) ∧ PySem.W.keepIn K (.ref g) = true ∧ FnC P w K mg base kk k g TT
section
variable {X : Cx}
end
end Eyes

set_option Elab.async false
set_option linter.all false
set_option maxRecDepth 100000
set_option maxHeartbeats 4000000
/-! A lambda whose one parameter has a number as its default, made and handed on. -/
namespace Eyes
open PySem PySem.Spec PyProof.Rows L2 LamX
abbrev fnL (q : Str) (params : Arguments) (body : Expr) (scope : Scope) (cl : List (Str × Addr)) (dV pm cdv ctv : Value) : FuncData :=
  { name := "<lambda>", qualname := q, params, body := .expr body, scope, globals := mainGlobals, closure := cl, defaults := dV, kwdefaults := .none, doc := .none, pyModule := pm, annotations := none, code := cdv, closureTuple := ctv, builtins := builtinsNs }
abbrev obL (q : Str) (params : Arguments) (body : Expr) (scope : Scope) (cl : List (Str × Addr)) (dV pm cdv ctv : Value) : Obj := { cls := .type "function", data := .func (fnL q params body scope cl dV pm cdv ctv) }
abbrev obT (u : Value) : Obj := { cls := .type "tuple", data := .seq [u].toArray }
section
variable {M : Model} {A : Around} {E : Value → Shared → Prop} {s : Shared} {q : Str} {params : Arguments} {body : Expr} {scope : Scope} {env : Env} {c P : Addr} {ps : Array Value} {pos : Pos} {line : Nat} {mg : Str → Option Value} {cl : List (Str × Addr)} {Q : Value → Shared → Prop} {dV : Value}
end
structure LamN (N : List Str) (sc scope : Scope) : Prop where
  kind : scope.kind = .function
  co : scope.isCoroutine = false
  gen : scope.isGenerator = false
  cel : ∀ y ∈ scope.names, y.2 ≠ .cell
  loc : ∀ y ∈ scope.names, y.2 = .local → y.1 ∉ N
  free : ∀ y ∈ scope.names, y.2 = .free → sc.names.lookup y.1 = some .cell ∨ sc.names.lookup y.1 = some .free
def lamNB (N : List Str) (sc scope : Scope) : Bool :=
  decide (scope.kind = .function) && (!scope.isCoroutine && (!scope.isGenerator && scope.names.all fun y => !decide (y.2 = .cell) && ((!decide (y.2 = .local) || !N.contains y.1) && (!decide (y.2 = .free) || (decide (sc.names.lookup y.1 = some .cell) || decide (sc.names.lookup y.1 = some .free))))))
theorem LamN.has {N : List Str} {X : Cx} {scope : Scope} (L : LamN N X.env.scope scope) (ok : X.Ok) : ∀ y ∈ scope.names, y.2 = .free → ∃ c, X.env.cells.lookup y.1 = some c := fun y hy e => by
  rcases L.free y hy e with k | k
  · exact ok.has _ (.inl k)
  · exact ok.has _ (.inr k)
section
variable {X : Cx} {pins : List (Addr × Obj)} {σ : L2.St} {H : Hp} {s : Shared}
def BindD (params : Arguments) (body : Expr) (scope : Scope) (a : Str) : Prop :=
  (∀ (q : Str) (cl : List (Str × Addr)) (t : Addr) (pm cv ctv u : Value), ∃ k, bindArgs (fnL q params body scope cl (.ref t) pm cv ctv) ⟨[], []⟩ = seqItems? (.ref t) >>= k ∧ k (some [u].toArray) = pure [(a, u)]) ∧ scope.names.lookup a = some .local
end
section
variable {X : Cx}
end
end Eyes

set_option Elab.async false
set_option linter.all false
set_option maxRecDepth 100000
set_option maxHeartbeats 4000000
/-! What was handed on is asked within a try. -/
namespace Eyes
open PySem PySem.Spec PyProof.Rows L2 LamX
end Eyes

set_option Elab.async false
set_option linter.all false
set_option maxRecDepth 100000
set_option maxHeartbeats 4000000
/-! Defs that make lambdas: their code object is named. -/
namespace Eyes
open PySem PySem.Spec PyProof.Rows L2 LamX
def FnAtC (K : PySem.W.Frag) (mg : Str → Option Value) (x : Str) (st : Stmt) (ps : List Str) (c : Addr) : Prop :=
  ∃ (f : Addr) (oc : Value) (od : Option Addr) (kV doc pm : Value) (an : Option Addr) (ct : Value) (osl : Array (Option Value)), K.lookup f = some ⟨oc, od, .func (PySem.W.fnOf x x (defArgs st) (defBody st) (defScope st) .none kV doc pm an (.ref c) ct), osl⟩ ∧ PySem.W.codeIn K (.ref c) x = true ∧ PySem.W.keepIn K (.ref f) = true ∧
    Binds K (PySem.W.fnOf x x (defArgs st) (defBody st) (defScope st) .none kV doc pm an (.ref c) ct) ps [] ∧ mg x = some (.ref f)
section
variable {P : Program} {w : World} {K : PySem.W.Frag} {mg : Str → Option Value} {base : Heap}
end
end Eyes

set_option Elab.async false
set_option linter.all false
set_option maxRecDepth 100000
set_option maxHeartbeats 4000000
/-! Defs of a star parameter alone, which may raise. -/
namespace Eyes
open PySem PySem.Spec PyProof.Rows L2
def FnAtR (K : PySem.W.Frag) (mg : Str → Option Value) (x : Str) (st : Stmt) : Prop := ∃ (f : Addr) (fd : FuncData), Fun K x x st f fd ∧ mg x = some (.ref f)
def PrR (P : Program) (w : World) (K : PySem.W.Frag) (mg : Str → Option Value) (base : Heap) (x : Str) (k : Nat) (sp : Sp) : Prop :=
  ∃ f : Addr, mg x = some (.ref f) ∧ PySem.W.keepIn K (.ref f) = true ∧ FnR P w K mg base (L2.CX P w) k f sp
def spStar (sp : Sp) : Sp := fun vs H Q E => vs.length ≤ sizeLine ∧ ∀ p, H p = none → sp [.ref p] (upd H p (.tup vs)) Q E
abbrev BindStar (x : Str) (st : Stmt) (a : Str) : Prop := ∀ (kV doc pm : Value) (an : Option Addr) (cdv ct : Value) (rest : List Value), bindArgs (PySem.W.fnOf x x (defArgs st) (defBody st) (defScope st) .none kV doc pm an cdv ct) ⟨rest, []⟩ = (newTuple rest >>= fun t => pure [(a, t)])
section
variable {P : Program} {w : World} {K : PySem.W.Frag} {mg : Str → Option Value} {base : Heap}
end
section
variable {X : Cx} {x : Str} {sp : Sp} {E : XK} {e : Expr} {es : List Expr} {p pos : Pos} {t : TA} {j k : Nat}
end
end Eyes

set_option Elab.async false
set_option linter.all false
set_option maxRecDepth 100000
set_option maxHeartbeats 4000000
/-! enumerate(tuple) in a for. -/
namespace Eyes
open PySem PySem.Spec PyProof.Rows L2
section
variable {prog : Program} {w : World} {A : Around} {E : Value → Shared → Prop} {s : Shared}
end
def IteT (K : PySem.W.Frag) (a : Addr) (k : Int) : It :=
  ⟨fun i H => ∃ (xs : List V) (x : V), SqT K H a xs ∧ xs[i]? = some x, fun i H v H' => ∃ T x, v = .ref T ∧ H T = none ∧ H' = upd H T (.tup [.int (k + (i : Nat)), x]) ∧ ∀ xs, SqT K H a xs → xs[i]? = some x, fun i H => ∃ xs : List V, SqT K H a xs ∧ xs.length ≤ i⟩
def iEnumT (K : PySem.W.Frag) (ta : TA) : TI := fun σ H R => ta σ H fun vs H1 => ∃ a xs, vs = [.ref a] ∧ SqT K H1 a xs ∧ R (IteT K a 0) H1
end Eyes

set_option Elab.async false
set_option linter.all false
set_option maxRecDepth 100000
set_option maxHeartbeats 4000000
/-! sorted(set(texts)). -/
namespace Eyes
open PySem PySem.Spec PyProof.Rows L2
def txtE (e : Int × Value) : Str := match e.2 with | .str z _ => z | _ => Str.empty
def IsTxt (w : World) (e : Int × Value) : Prop := ∃ z tk, e.2 = Value.str z tk ∧ e.1 = hashStr w z
def TxtSet (w : World) (h : Heap) (a : Addr) (L : List Str) : Prop :=
  ∃ ob ee pp tt, h.get? a = some ob ∧ ob.ExactSet ∧ ob.data = .set ee pp tt ∧ (∀ e ∈ ee.toList, IsTxt w e) ∧ ee.toList.map txtE = L ∧ L.Nodup ∧ ee.size < scanBound ∧ tt.fits ee.size = true ∧ Ris tt.place.toList ∧ (w.params.followText "set-order" = true ∨ tt.led = true)
section
variable {P : Program} {w : World}
end
section
variable {P : Program} {w : World} {A : Around} {E : Value → Shared → Prop} {s : Shared} {a : Addr}
theorem TxtSet.at {h h' : Heap} {L : List Str} (T : TxtSet w h a L) (k : ∀ o, h.get? a = some o → h'.get? a = some o) : TxtSet w h' a L := by
  obtain ⟨o, e, p, t, ho, r⟩ := T
  exact ⟨o, e, p, t, k o ho, r⟩
abbrev noSet (w : World) : Obj := { cls := .type "set", dict := none, data := .set #[] 0 (.fresh 0 0 (!w.params.followText "set-order")) }
end
/-! ### set(texts) -/
section
variable {P : Program} {w : World} {A : Around} {R : Result → Shared → Prop} {I : Addr} {fp wr : List Addr} {G : Array GenState → Array GenState → Prop} {n : Nat} {Pv : Nat → Value → Prop} {St : Nat → Shared → Prop}
end
end Eyes

set_option Elab.async false
set_option linter.all false
set_option maxRecDepth 100000
set_option maxHeartbeats 8000000
namespace Eyes
open PySem PySem.Spec PyProof.Rows L2
section
variable {P : Program} {w : World} {A : Around} {E : Value → Shared → Prop} {s : Shared}
end
def tSortedSet (K : PySem.W.Frag) (te : TE) : TE := fun σ H Q => te σ H fun x H1 => ∃ (a : Addr) (xs : List Str), x = .ref a ∧ SqL K H1 a (xs.map V.str) ∧ xs.length < 64 ∧
  ∀ (ys : List Str) (p : Addr), sortedS ys = true → ys.Nodup → (∀ y, y ∈ ys ↔ y ∈ xs) → H1 p = none → Q (.ref p) (upd H1 p (.lst (ys.map V.str)))
section
variable {X : Cx} {K : PySem.W.Frag} {e : Expr} {te : TE} {p1 p2 q1 q2 : Pos}
end
end Eyes

set_option Elab.async false
set_option linter.all false
set_option maxRecDepth 100000
set_option maxHeartbeats 4000000
/-! ==, repr() and bool() of own instances; either of two rules. -/
namespace Eyes
open PySem PySem.Spec PyProof.Rows L2
def EqTo (K : PySem.W.Frag) (C : Addr) (H : Hp) (y : V) : Prop :=
  (∃ z, y = .str z ∧ PySem.W.notFirst K C (.type "str") = true) ∨ (∃ b zs, y = .ref b ∧ H b = some (.lst zs) ∧ PySem.W.notFirst K C (.type "list") = true) ∨ ∃ b dy gs, y = .ref b ∧ H b = some (.ins C dy gs)
def rEqOwn (K : PySem.W.Frag) (C : Addr) (sp : Sp) : R2 := fun x y H Q => ∃ a dx fs, x = .ref a ∧ H a = some (.ins C dx fs) ∧ EqTo K C H y ∧ sp [.ref a, y] H Q (fun _ _ _ => False)
def rReprOwn (C : Addr) (sp : Sp) : List V → Hp → VK → Prop := fun xs H Q => ∃ a dx fs, xs = [.ref a] ∧ H a = some (.ins C dx fs) ∧ sp [.ref a] H (fun v H' => ∃ z, v = .str z ∧ Q v H') (fun _ _ _ => False)
def rBoolOwn (K : PySem.W.Frag) (C : Addr) : List V → Hp → VK → Prop := fun xs H Q => ∃ a dx fs, xs = [.ref a] ∧ H a = some (.ins C dx fs) ∧ PySem.W.findIn K (.ref C) "__bool__" = some none ∧ PySem.W.findIn K (.ref C) "__len__" = some none ∧ Q (.bl true) H
section
variable {X : Cx} {C : Addr} {j k : Nat} {ps : List Str} {sp : Sp}
end
section
variable {X : Cx}
theorem call_len_seqK {K : PySem.W.Frag} (hK : X.K = K) : CallR X (.builtin "len") (fun xs H Q => ∃ p ys, xs = [V.ref p] ∧ (SqL K H p ys ∨ SqT K H p ys) ∧ Q (V.int (ys.length : Nat)) H) := hK ▸ call_len_seq
theorem call_isiK {K : PySem.W.Frag} (hK : X.K = K) : CallR X (.builtin "isinstance") (rIsi K) := hK ▸ call_isi
end
end Eyes

set_option Elab.async false
set_option linter.all false
set_option maxRecDepth 100000
set_option maxHeartbeats 4000000
/-! Rules of mine: len() of own instances, len(range(..)), methods called with keywords, __init__ with defaults. -/
namespace Eyes
open PySem PySem.Spec PyProof.Rows L2
def rLenOwn (C : Addr) (sp : Sp) : List V → Hp → VK → Prop := fun xs H Q => ∃ a dx fs, xs = [.ref a] ∧ H a = some (.ins C dx fs) ∧ sp [.ref a] H (fun v H' => ∃ n : Nat, v = .int (n : Int) ∧ n < 4294967296 ∧ Q v H') (fun _ _ _ => False)
section
variable {X : Cx} {C : Addr} {j k : Nat} {ps : List Str} {sp : Sp} {nm : Str}
end
def tLenRg (te : L2.St → Hp → (Int → Int → Hp → Prop) → Prop) : TE := fun σ H Q => te σ H fun a b H1 => RgOk a b ∧ Q (.int (((b - a).toNat : Nat) : Int)) H1
section
variable {X : Cx} {e : Expr} {te : L2.St → Hp → (Int → Int → Hp → Prop) → Prop}
end
def PrMF (P : Program) (w : World) (K : PySem.W.Frag) (mg : Str → Option Value) (base : Heap) (C : Addr) (m qual : Str) (st : Stmt) (ps : List Str) (k : Nat) (sp : Sp) : Prop :=
  ∃ (f : Addr) (fd : FuncData), Meth K C m f ∧ Fun K m qual st f fd ∧ Binds K fd ps [] ∧ FnOk P w K mg base CX0 k f fd ps sp
def KwOkM (m qual : Str) (st : Stmt) (ps ks : List Str) (is : List Nat) : Prop :=
  ∀ (kV doc pm : Value) (an : Option Addr) (cdv ct : Value) (us ws : List Value), us.length = 1 → ws.length = ks.length → bindArgs (PySem.W.fnOf m qual (defArgs st) (defBody st) (defScope st) .none kV doc pm an cdv ct) ⟨us, ks.zip ws⟩ = pure (ps.zip (pick is (us ++ ws)))
def tMethN (C : Addr) (m : Str) (n : Nat) (sp : Sp) (is : List Nat) (ta : TE) (tk : TA) : TE := fun σ H Q => ta σ H fun x H1 => ∃ a dx fs, x = .ref a ∧ H1 a = some (.ins C dx fs) ∧ fs.lookup m = none ∧ tk σ H1 fun zs H2 => zs.length = n ∧ sp (pick is ([x] ++ zs)) H2 Q (fun _ _ _ => False)
section
variable {P : Program} {w : World} {K : PySem.W.Frag} {mg : Str → Option Value} {base : Heap}
theorem PrMF.m {C : Addr} {m qual : Str} {st : Stmt} {ps : List Str} {k : Nat} {sp : Sp} (G : PrMF P w K mg base C m qual st ps k sp) : PrM P w K mg base C m ps k sp := by
  obtain ⟨f, fd, M, F, hb, R⟩ := G
  exact ⟨f, fd, M, hb, R⟩
end
section
variable {X : Cx} {C : Addr} {j k : Nat} {ps ks : List Str} {is : List Nat} {sp : Sp} {m qual : Str} {st : Stmt} {o : Expr} {kws : List Keyword} {apos pos : Pos} {ta : TE} {tk : TA}
end
def InitAtD (K : PySem.W.Frag) (C : Addr) (qual : Str) (st : Stmt) (ps : List Str) : Prop :=
  ∃ (f : Addr) (fd : FuncData) (dvs : List V), L2.Mk K C f ∧ FunD K "__init__" qual (defArgs st) (defBody st) (defScope st) dvs [] f fd ∧ Binds K fd ps []
abbrev BindHD (x qual : Str) (st : Stmt) (ps : List Str) : Prop := ∀ (T : Addr) (kV doc pm : Value) (an : Option Addr) (cdv ct : Value) (us its : List Value), us.length = ps.length → its.length = 1 →
  ∃ k, bindArgs (PySem.W.fnOf x qual (defArgs st) (defBody st) (defScope st) (.ref T) kV doc pm an cdv ct) ⟨us, []⟩ = seqItems? (.ref T) >>= k ∧ k (some its.toArray) = pure (ps.zip us)
section
variable {P : Program} {w : World} {K : PySem.W.Frag} {mg : Str → Option Value} {base : Heap}
end
end Eyes

set_option Elab.async false
set_option linter.all false
set_option maxRecDepth 100000
set_option maxHeartbeats 4000000
/-! An __init__ whose last parameter defaults to (), called without it. -/
namespace Eyes
open PySem PySem.Spec PyProof.Rows L2
def InitD0 (K : PySem.W.Frag) (C : Addr) (qual : Str) (st : Stmt) (ps : List Str) : Prop :=
  ∃ (f : Addr) (fd : FuncData) (d : Addr) (ds : List Value), L2.Mk K C f ∧ FunD K "__init__" qual (defArgs st) (defBody st) (defScope st) [.ref d] [] f fd ∧ Vals [.ref d] ds ∧ Binds K fd ps ds ∧ ∀ H, SqT K H d []
abbrev BindHD0 (x qual : Str) (st : Stmt) (ps : List Str) : Prop := ∀ (T : Addr) (kV doc pm : Value) (an : Option Addr) (cdv ct : Value) (us its : List Value), us.length + 1 = ps.length → its.length = 1 →
  ∃ k, bindArgs (PySem.W.fnOf x qual (defArgs st) (defBody st) (defScope st) (.ref T) kV doc pm an cdv ct) ⟨us, []⟩ = seqItems? (.ref T) >>= k ∧ k (some its.toArray) = pure (ps.zip (us ++ its))
section
variable {P : Program} {w : World} {K : PySem.W.Frag} {mg : Str → Option Value} {base : Heap}
end
def PrI0 (P : Program) (w : World) (K : PySem.W.Frag) (mg : Str → Option Value) (base : Heap) (C : Addr) (ps : List Str) (k : Nat) (sp : Sp) : Prop :=
  ∃ (f : Addr) (fd : FuncData) (d : Addr) (ds : List Value), L2.Mk K C f ∧ Vals [.ref d] ds ∧ Binds K fd ps ds ∧ (∀ H, SqT K H d []) ∧ FnOk P w K mg base CX0 k f fd ps sp
section
variable {P : Program} {w : World} {K : PySem.W.Frag} {mg : Str → Option Value} {base : Heap}
end
def tMake0 (K : PySem.W.Frag) (C : Addr) (sp : Sp) (t : TA) : TE := fun σ H Q => ∀ d, (∀ H', SqT K H' d []) → tMake C sp [.ref d] (fun _ _ _ => False) t σ H Q
section
variable {X : Cx} {x : Str} {ps : List Str} {sp : Sp} {e : Expr} {es : List Expr} {p pos : Pos} {t : TA} {K : PySem.W.Frag}
end
end Eyes

set_option Elab.async false
set_option linter.all false
set_option maxRecDepth 100000
set_option maxHeartbeats 4000000
/-! Own errors that are held as values: their fields, isinstance. -/
namespace Eyes
open PySem PySem.Spec PyProof.Rows L2 Evl
def XvO (a C : Addr) (d : Option Addr) (h : Heap) : Prop := ∃ (oe : Obj) (vs : Array Value), h.get? a = some oe ∧ Zc (.ref C) d oe ∧ oe.data = .fields vs
def IsX (H : Hp) (a C : Addr) (d : Option Addr) : Prop := ∃ φ : Heap → Prop, H a = some (.ext φ) ∧ ∀ h, φ h → XvO a C d h
theorem IsX.mono {H H' : Hp} {a C : Addr} {d : Option Addr} (h : IsX H a C d) (e : Ex H H') : IsX H' a C d := by
  obtain ⟨φ, h1, h2⟩ := h
  exact ⟨φ, e _ _ h1, h2⟩
theorem IsX.at {P : Program} {w : World} {H : Hp} {h : Heap} {a C : Addr} {d : Option Addr} (x : IsX H a C d) (ok : HOk P w H h) : XvO a C d h := by
  obtain ⟨φ, h1, h2⟩ := x
  have q : ObjOk P w H h a (.ext φ) := ok a _ h1
  exact h2 h q.1
def tXv (K : PySem.W.Frag) (f : Str) (te : TE) : TE := fun σ H Q => te σ H fun x H1 => ∃ (a C dd : Addr) (fs : List (Str × V)) (v : V), x = .ref a ∧ IsX H1 a C (some dd) ∧ XfC K C ∧ PySem.W.findIn K (.ref C) f = some none ∧ H1 dd = some (.xd fs) ∧ fs.lookup f = some v ∧ Q v H1
def rIsV (K : PySem.W.Frag) : List V → Hp → VK → Prop := fun xs H Q => ∃ (a C : Addr) (d : Option Addr) (c : V) (cv : Value) (b : Bool), xs = [.ref a, c] ∧ IsX H a C d ∧ (∀ dd, d = some dd → ∃ o, H dd = some o) ∧ ExcC K C ∧ (∀ u, RelV c u → u = cv) ∧ PySem.W.kitOne K (.ref C) cv = some b ∧ Q (.bl b) H
theorem call_isV {X : Cx} {K : PySem.W.Frag} (hK : X.K = K) : CallR X (.builtin "isinstance") (rIsV K) := by
  subst hK
  intro pins s σ H xs us Q I r h
  obtain ⟨a, C, d, c, cv, b, rfl, hx, hdd, T, hcv, e, q⟩ := h
  match us, r with
  | [_, _], .cons rx (.cons rt .nil) =>
    cases rx
    cases hcv _ rt
    obtain ⟨oe, vs, ho, hz, hv⟩ := hx.at I.hok
    have hno : PySem.W.notCls oe = true := by
      unfold PySem.W.notCls
      rw [hv]
    obtain ⟨od, J⟩ : ∃ od, PySem.W.InstAt s.heap a oe C od := by
      cases d with
      | none => exact ⟨none, ho, hz.1, hno, by rw [hz.2]; trivial⟩
      | some dd =>
        obtain ⟨o, hd⟩ := hdd dd rfl
        obtain ⟨u, hu⟩ := objOk_get (I.hok dd o hd)
        exact ⟨some u, ho, hz.1, hno, by rw [hz.2]; exact hu⟩
    obtain ⟨cd, hcd, _⟩ := PySem.W.any_some T.hd
    exact PySem.W.kia_one (PySem.W.kitx_exc (by rw [hcd]; rfl) T.hg T.hk T.hs T.ha T.hn T.ht T.hm) I.kIn J e (fun z => nomatch z) fun tk => ⟨.bl b, H, I.kept (t' := tk) fun _ _ z => z, rfl, q⟩
end Eyes

set_option Elab.async false
set_option linter.all false
set_option maxRecDepth 100000
set_option maxHeartbeats 4000000
/-! Own errors made as values, over any base. -/
namespace Eyes
open PySem PySem.Spec PyProof.Rows L2 Evl
def refsT (tail : List Value) : List Value → Bool
  | .ref _ :: r => refsT tail r
  | l => l == tail
theorem refsT_split {tail : List Value} : ∀ {l : List Value}, refsT tail l = true → ∃ cs : List Addr, l = cs.map Value.ref ++ tail
  | [], h => ⟨[], eq_of_beq h⟩
  | .ref c :: r, h => by
    obtain ⟨cs, e⟩ := refsT_split (l := r) h
    exact ⟨c :: cs, by rw [e]; rfl⟩
  | .none :: _, h => ⟨[], eq_of_beq h⟩
  | .ellipsis :: _, h => ⟨[], eq_of_beq h⟩
  | .notImplemented :: _, h => ⟨[], eq_of_beq h⟩
  | .bool _ :: _, h => ⟨[], eq_of_beq h⟩
  | .int _ _ :: _, h => ⟨[], eq_of_beq h⟩
  | .float _ _ :: _, h => ⟨[], eq_of_beq h⟩
  | .str _ _ :: _, h => ⟨[], eq_of_beq h⟩
  | .bytes _ _ :: _, h => ⟨[], eq_of_beq h⟩
  | .type _ :: _, h => ⟨[], eq_of_beq h⟩
  | .builtin _ :: _, h => ⟨[], eq_of_beq h⟩
theorem refsT_has {tail l : List Value} (h : refsT tail l = true) (x : String) : l.contains (.type x) = tail.contains (.type x) := by
  obtain ⟨cs, rfl⟩ := refsT_split h
  induction cs with
  | nil => rfl
  | cons c cs ih =>
    have ih := ih (by
      have : refsT tail (.ref c :: (cs.map Value.ref ++ tail)) = true := h
      exact this)
    rw [List.map_cons, List.cons_append, List.contains_cons, ih]
    rfl
theorem refsT_let {B ob sa : String} {tail l : List Value} (SF : StoreFacts B tail sa ob) (h : refsT tail l = true) (self : Value) : refuseLoop self "__setattr__" l = pure () := by
  obtain ⟨cs, rfl⟩ := refsT_split h
  clear h
  induction cs with
  | nil => exact SF.passes self
  | cons c cs ih =>
    rw [List.map_cons, List.cons_append, refuseLoop_ref]
    exact ih
structure OexT (K : PySem.W.Frag) (C : Addr) (tail : List Value) (newId : String) : Prop where
  cls : ∃ nm q N bs bm sn sub ab col dd k0 k1 k2 k3 k5, K.lookup C = some (excClassObj nm q C N bs bm true sn sub ab col dd k0 k1 k2 k3 k5 newId) ∧ refsT tail bm = true
  sa : PySem.W.findIn K (.ref C) "__setattr__" = some (some (.builtin "object.__setattr__"))
  exC : PySem.W.subIn K (.ref C) (.type "BaseException") = some true
  tyC : PySem.W.typeIn K (.ref C) = some (.type "type")
  kC : PySem.W.keepIn K (.ref C) = true
open PySem.W PySem.Calls PySem.HandSPX Builtin Builtin.ObjectAttr in
theorem osa_T {prog : Program} {w : World} {A : Around} {R : Result → Shared → Prop} {hp : Heap} {g : Array GenState} {dr : Drawn} {t : Nat} {os : OsState} {K : Frag} {name : Str} {tk : Tok} {v : Value} {x C : Addr} {fv : Array Value} {cd : ClassData} {B : String} {tail : List Value} (SF : StoreFacts B tail "object.__setattr__" "object")
    (kin : K.In hp) (hx : hp.get? x = some { cls := .ref C, data := .fields fv }) (hcd : clsIn K C = some cd) (hm : refsT tail cd.mro = true) (hh : cd.hasDict = true) (ha : findIn K (.ref C) name = some none)
    (q : ∀ h2 t2 dx, (∀ b o, b ≠ x → hp.get? b = some o → h2.get? b = some o) → hp.objs.size ≤ dx → dx ≠ x → h2.get? x = some { cls := .ref C, dict := some dx, data := .fields fv } → h2.Ns1 dx (fun y => if y = name then some v else none) → R (.ok (.ret .none)) ⟨h2, g, dr, t2, os⟩) :
    codeAny (model prog w) A (.call (.builtin "object.__setattr__") ⟨[.ref x, .str name tk, v], []⟩) R ⟨hp, g, dr, t, os⟩ := by
  have J : InstAt hp x { cls := .ref C, data := .fields fv } C none := ⟨hx, rfl, rfl, trivial⟩
  have has : cd.mro.contains (.type "object") = true := (refsT_has hm "object").trans SF.hasOwner
  have hne : cd.mro.isEmpty = false := by
    cases e : cd.mro with
    | nil =>
      rw [e] at has
      exact absurd has (by decide)
    | cons _ _ => rfl
  have apart : x ≠ hp.objs.size := Nat.ne_of_lt (Heap.lt_size hx)
  have under : Looks (model prog w) hp (isInstance (.ref x) (.type "object")) true := by
    refine J.type.andThen (looks_mroIn kin ?_)
    unfold mroIn
    rw [hcd, Option.bind_some, if_neg (by rw [hne]; decide), has]
  refine codeAny_call_builtin SF.slot.plain SF.entry ?_
  refine @check_slot (model prog w) _ _ ⟨hp, g, dr, t, os⟩ "object.__setattr__" "object" "__setattr__" (.ref x) [.str name tk, v] [] _ SF.kind SF.split under (SF.args _ _ _) ?_
  have m1 : Looks (model prog w) hp (mroOf (.ref C)) cd.mro := (looks_clsIn kin hcd).andThen .now
  have m2 : Looks (model prog w) hp (storeTaker? none) none := .now
  have m3 : Looks (model prog w) hp (classData C) cd := looks_clsIn kin hcd
  rw [osa_eq, refuse_eq]
  refine wpAny_bind (wpAny_bind (J.type.at (wpAny_bind (m1.at ?_))))
  rw [refsT_let SF hm]
  refine wpAny_pure (wpAny_bind (J.type.at (wpAny_bind ((looks_findIn kin ha).at (wpAny_bind (m2.at ?_))))))
  show wpAny _ _ (storeInOwnDict (.ref x) (.ref C) (.str name tk) name v false) _ _ _
  obtain ⟨nm, bs, mro, ns, qn, hd, sn, sb, ab, col, del⟩ := cd
  cases hh
  unfold storeInOwnDict ownDictForStores
  repeat (first | with_reducible refine store_in_new ?_ ?_ | with_reducible refine wpAny_loadPart_at hx ?_ | with_reducible refine m3.at ?_ | wp_step)
  · exact ⟨_, #[], _, (Heap.get?_update_ne _ _ _ _ apart.symm).trans (Heap.get?_push_at rfl rfl), rfl, fun e he => absurd he (by simp), fun _ => rfl⟩
  intro h2 t2 hn hs
  have there : (hp.push { cls := .type "dict", data := .dict #[] }).get? x = some { cls := .ref C, data := .fields fv } := Heap.get?_push_of_some _ hx
  refine q h2 t2 hp.objs.size (fun b o hb ho => ?_) (Nat.le_refl _) apart.symm ((hs.2 x apart).trans (Heap.get?_update_self _ there rfl)) hn
  rw [hs.2 b (Nat.ne_of_lt (Heap.lt_size ho)), Heap.get?_update_ne _ _ _ _ hb]
  exact Heap.get?_push_of_some _ ho
section
variable {X : Cx} {pins : List (Addr × Obj)} {σ : L2.St} {H : Hp} {s : Shared} {a C dx : Addr} {f : Str} {y : V} {u : Value} {fs : List (Str × V)} {Q : Unit → Shared → Prop} {E : Value → Shared → Prop} {A : Around} {tail : List Value} {B newId initId : String}
theorem ost_T (SF : StoreFacts B tail "object.__setattr__" "object") (T : OexT X.K C tail newId) (I : Inv X pins σ H s) (e : H a = some (exo a C none)) (hno : PySem.W.findIn X.K (.ref C) f = some none) (ry : RelV y u)
    (q : ∀ dx s2, H dx = none → dx ≠ a → Inv X pins σ (upd (upd H dx (exd dx [(f, y)])) a (exo a C (some dx))) s2 → Q () s2) : wpAny (model X.prog X.w) A (setAttr (.ref a) f u) Q E s := by
  obtain ⟨nm, qn, N, bs, bm, sn, sub, ab, col, dd, k0, k1, k2, k3, k5, hC, hbm⟩ := T.cls
  have hcl : PySem.W.clsIn X.K C = some { name := nm, bases := bs, mro := .ref C :: bm, ns := N, qualname := qn, hasDict := true, slotNames := sn, subclasses := sub, abstract := ab, collection := col, hasDel := false } := by
    unfold PySem.W.clsIn
    rw [hC] <;> rfl
  obtain ⟨t1, ho⟩ := exo_at I.hok e
  obtain ⟨hp, g, d, t, os⟩ := s
  refine PySem.W.set_plain I.kIn (ox := { cls := .ref C, dict := none, data := .fields #[.ref t1, .none, .none, .none, .bool false, .none] }) (od := none) ⟨ho, rfl, rfl, trivial⟩ T.sa ?_
  refine osa_T SF I.kIn ho hcl (show refsT tail (.ref C :: bm) = true from hbm) rfl hno fun h2 t2 dx keep young apart hx hn => ?_
  have free : H dx = none := I.hok.fresh young
  have old : ∀ {b : Addr} {o : Obj}, hp.get? b = some o → b ≠ dx := fun {b o} z => Nat.ne_of_lt (Nat.lt_of_lt_of_le (Heap.lt_size z) young)
  have other : ∀ {b : Addr}, H b = none → b ≠ a := fun {b} z eb => by
    rw [eb, e] at z
    cases z
  have U : Un X.fs [] H (upd (upd H dx (exd dx [(f, y)])) a (exo a C (some dx))) hp h2 := by
    constructor
    · exact fun b o z n _ _ => keep b o (other n) z
    · exact fun b o z n _ _ => ⟨o.slots, keep b o (other n) z⟩
    · exact fun b o z n _ => by rw [upd_ne (other n), upd_ne (old z)]; exact n
    · intro b o z _
      by_cases hb : b = a
      · exact ⟨_, by rw [hb]; exact hx⟩
      · exact ⟨o, keep b o hb z⟩
    · exact fun b xs z => by rw [upd_ne (at_ne e z exo_tup), upd_ne (ne_of_none z free)]; exact z
    · exact fun b o v z => by rw [upd_ne (at_ne e z exo_frz), upd_ne (ne_of_none z free)]; exact z
    · exact fun b ps z => ⟨#[], by rw [upd_ne (at_ne e z exo_tbl), upd_ne (ne_of_none z free), z]; simp⟩
  refine q dx _ free apart (I.un (t' := t2) U fun b o z => ?_)
  by_cases hb : b = a
  · subst hb
    rw [upd_same] at z
    cases z
    exact exo_ok hx
  rw [upd_ne hb] at z
  by_cases hd : b = dx
  · subst hd
    rw [upd_same] at z
    cases z
    exact exd_ok hn (relO_put (fs := []) ry fun _ => True.intro)
  rw [upd_ne hd] at z
  refine (I.hok b o z).stay (fun c v hc z2 => keep c v ?_ z2) (fun c hc => ?_) fun c xs hc => ?_
  · rcases hc with hc | hc
    · rw [hc]
      exact hb
    · exact at_ne e hc exo_own
  · rw [upd_ne (at_ne e hc exo_own), upd_ne (ne_of_none hc free)]
    exact hc
  · rw [upd_ne (at_ne e hc exo_tup), upd_ne (ne_of_none hc free)]
    exact hc
end
def ExD (a C d : Addr) : HO := .ext fun h => ∃ (oe : Obj) (vs : Array Value), h.get? a = some oe ∧ Zc (.ref C) (some d) oe ∧ oe.data = .fields vs ∧ vs[1]? = some .none ∧ 4 < vs.size
theorem isX_D {H : Hp} {a C d : Addr} (h : H a = some (ExD a C d)) : IsX H a C (some d) := ⟨_, h, fun _ ⟨oe, vs, h1, h2, h3, _⟩ => ⟨oe, vs, h1, h2, h3⟩⟩
theorem isX_O {H : Hp} {a C : Addr} (h : H a = some (ExO (.ref C) a)) : IsX H a C none := ⟨_, h, fun _ ⟨oe, vs, h1, h2, h3, _⟩ => ⟨oe, vs, h1, h2, h3⟩⟩
section
variable {X : Cx} {pins : List (Addr × Obj)} {σ : L2.St} {H1 H2 : Hp} {hp hp2 h2 : Heap} {g1 g2 : Array GenState} {d1 d2 : Drawn} {t1 t2 : Nat} {os1 os2 : OsState} {a C d : Addr} {fs : List (Str × V)}
theorem mkT_end (I : Inv X pins σ H1 ⟨hp, g1, d1, t1, os1⟩) (young : hp.objs.size ≤ a) (k : ∀ b o, hp.get? b = some o → hp2.get? b = some o) (un : Un (frs X.stack) [] (upd H1 a (exo a C none)) H2 hp2 h2)
    (ok : HOk X.prog X.w H2 h2) (same : os2 = os1) (bare : AllBare g2) (ea : H2 a = some (exo a C (some d))) (ed : H2 d = some (exd d fs)) (free : H1 d = none) :
    Inv X pins σ (upd (upd H2 a (ExD a C d)) d (.xd fs)) ⟨h2, g2, d2, t2, os2⟩ := by
  obtain ⟨t0, hoe⟩ := exo_at ok ea
  obtain ⟨mA, hns, rel⟩ := exd_at ok ed
  have na : H1 a = none := I.hok.fresh young
  have old : ∀ {b : Addr} {o : Obj}, hp.get? b = some o → b ≠ a := fun {b o} z => Nat.ne_of_lt (Nat.lt_of_lt_of_le (Heap.lt_size z) young)
  have up : ∀ {b : Addr}, b ≠ a → H1 b = none → upd H1 a (exo a C none) b = none := fun {b} hb n => (upd_ne hb).trans n
  have notd : ∀ {b : Addr} {o : Obj}, hp.get? b = some o → H1 b = none → b ≠ d := fun {b o} z n e => by
    have y := un.free b o (k b o z) (up (old z) n) (by simp)
    rw [e, ed] at y
    cases y
  have U : Un (frs X.stack) [] H1 (upd (upd H2 a (ExD a C d)) d (.xd fs)) hp h2 := by
    constructor
    · exact fun b o z n hf hx => un.keep b o (k b o z) (up (old z) n) hf hx
    · exact fun b o z n hf hx => un.slot b o (k b o z) (up (old z) n) hf hx
    · exact fun b o z n hx => by
        rw [upd_ne (notd z n), upd_ne (old z)]
        exact un.free b o (k b o z) (up (old z) n) hx
    · exact fun b o z hx => un.there b o (k b o z) hx
    · exact fun b xs z => by
        rw [upd_ne (ne_of_none z free), upd_ne (ne_of_none z na)]
        exact un.tups b xs ((upd_ne (ne_of_none z na)).trans z)
    · exact fun b o v z => by
        rw [upd_ne (ne_of_none z free), upd_ne (ne_of_none z na)]
        exact un.frzs b o v ((upd_ne (ne_of_none z na)).trans z)
    · exact fun b ps z => by
        rw [upd_ne (ne_of_none z free), upd_ne (ne_of_none z na)]
        exact un.tbls b ps ((upd_ne (ne_of_none z na)).trans z)
  refine I.call' (ch := []) same U (fun b o z => ?_) bare fun b z => absurd z (by simp)
  by_cases hd : b = d
  · subst hd
    rw [upd_same] at z
    cases z
    exact ⟨mA, hns, rel⟩
  rw [upd_ne hd] at z
  by_cases hb : b = a
  · subst hb
    rw [upd_same] at z
    cases z
    exact ⟨⟨_, _, hoe, ⟨rfl, rfl⟩, rfl, rfl, by show 4 < 6; decide⟩, ⟨_, hoe⟩, fun _ _ ⟨oe, vs, e1, e2⟩ k => ⟨oe, vs, k _ e1, e2⟩⟩
  rw [upd_ne hb] at z
  refine (ok b o z).stay (fun _ _ _ y => y) (fun c hc => ?_) fun c xs hc => ?_
  · rw [upd_ne (at_ne ed hc exd_own), upd_ne (at_ne ea hc exo_own)]
    exact hc
  · rw [upd_ne (at_ne ed hc exd_tup), upd_ne (at_ne ea hc exo_tup)]
    exact hc
end
def tMkT (C : Addr) (sp : Sp) (ta : TA) : TE := fun σ H Q => ta σ H fun vs H1 => vs.length ≤ 1000 ∧ ∀ a, H1 a = none → sp (.ref a :: vs) (upd H1 a (exo a C none))
  (fun v H2 => v = .non ∧ ∃ (d : Addr) (fs : List (Str × V)), H2 a = some (exo a C (some d)) ∧ H2 d = some (exd d fs) ∧ H1 d = none ∧ Q (.ref a) (upd (upd H2 a (ExD a C d)) d (.xd fs))) (fun _ _ _ => False)
section
variable {X : Cx} {o e : Expr} {es : List Expr} {to te : TE} {ta : TA} {f : Str} {p p2 pos : Pos} {tail : List Value} {B newId initId : String}
def tOstT (K : PySem.W.Frag) (tail : List Value) (newId : String) (f : Str) (to te : TE) : TS := fun D σ H => te σ H fun y H1 => to σ H1 fun x H2 => ∃ a C : Addr, x = .ref a ∧ OexT K C tail newId ∧ PySem.W.findIn K (.ref C) f = some none ∧
  H2 a = some (exo a C none) ∧ ∀ dx, H2 dx = none → dx ≠ a → D.nx σ (upd (upd H2 dx (exd dx [(f, y)])) a (exo a C (some dx)))
theorem ps_ostT (SF : StoreFacts B tail "object.__setattr__" "object") (ho : PE X o to) (he : PE X e te) (hs : swapsWith e (some (.Attribute o f p2)) pos.line X.env = pure false := by rfl) : PS X (.Assign [.Attribute o f p2] e pos) (tOstT X.K tail newId f to te) := by
  constructor
  intro pins s σ H D I h
  refine plainObj_wpAny_Assign_Attribute (thn (he.run pins s σ H _ I h) ?_) hs
  rintro v s1 ⟨y, H1, I1, r1, q1⟩
  refine thn (ho.run pins s1 σ H1 _ I1 q1) ?_
  rintro u s2 ⟨x, H2, I2, r2, a, C, rfl, T, hno, ea, q⟩
  obtain rfl : u = Value.ref a := r2
  exact ost_T SF T I2 ea hno r1 fun dx s3 n ne J => ⟨σ, _, J, q dx n ne⟩
theorem pe_mkT {CX : CXT} {x : Str} {C fI : Addr} {k : Nat} {fd : FuncData} {ps : List Str} {sp : Sp} (F : ExcBaseFacts B newId initId tail) (T : OexT X.K C tail newId) (iC : PySem.W.findIn X.K (.ref C) "__init__" = some (some (.ref fI)))
    (tI : PySem.W.typeIn X.K (.ref fI) = some (.type "function")) (F1 : FnOk X.prog X.w X.K X.mg X.base CX k fI fd ps sp) (hr : Room (k + 1) X.A) (hb : Binds X.K fd ps []) (hx : Passes CX X (fun _ _ _ => False)) (hg : Gl X x) (hm : X.mg x = some (.ref C)) (ha : PA X (e :: es) ta)
    (hdb : (x == ("__debug__" : Str)) = false := by decide) (he : starEach (e :: es) X.env = (false, eval e X.env) :: starEach es X.env := by rfl) (hpl : (backTo pos (starEach es X.env)).any (·.1) = false := by rfl) :
    PE X (.Call (.Name x p) (e :: es) [] pos) (tMkT C sp ta) := by
  constructor
  intro pins s σ H Q I h
  obtain ⟨nm, qn, N, bs, bm, sn, sub, ab, col, dd, k0, k1, k2, k3, k5, hC, hbm⟩ := T.cls
  refine wpAny_Call_Name_kw (ld_glob I hg hm ?_ hdb)
  refine PySem.W.callWith_K (h₀ := X.base) I.ok.mod.kin T.kC (thn (ha.run pos pins s σ H _ I h) fun us s1 ⟨vs, H1, I1, r1, hz, q1⟩ => ⟨I1.kIn, ?_⟩) he hpl
  show wpAny _ _ (call (.ref C) us) _ _ _
  obtain ⟨hp, g, dr, tk, os⟩ := s1
  have young : hp.objs.size ≤ hp.objs.size + 1 := Nat.le_succ _
  have hq := q1 (hp.objs.size + 1) (I1.hok.fresh young)
  have kp : ∀ b o, hp.get? b = some o → ((hp.push (PySem.W.kdv_tup us)).push (PySem.HandSPX.excO C hp.objs.size)).get? b = some o := fun b o z => Heap.get?_push_of_some _ (Heap.get?_push_of_some _ z)
  have there : ((hp.push (PySem.W.kdv_tup us)).push (PySem.HandSPX.excO C hp.objs.size)).get? (hp.objs.size + 1) = some (PySem.HandSPX.excO C hp.objs.size) := by heap_get
  have I2 := I1.laid (t' := tk) (a := hp.objs.size + 1) (o := exo (hp.objs.size + 1) C none) kp young (exo_ok there)
  have r2 : Vals (V.ref (hp.objs.size + 1) :: vs) (Value.ref (hp.objs.size + 1) :: us) := .cons rfl r1
  have len : (Value.ref (hp.objs.size + 1) :: us).length = ps.length := by
    rw [← r2.length]
    exact F1.len _ _ _ _ hq
  have few : us.length ≤ sizeLine := by
    rw [← Paired.length r1, sizeLine_eq]
    omega
  have bind := hb _ (Value.ref (hp.objs.size + 1) :: us) I2.kIn (by rw [List.append_nil]; exact len)
  rw [List.append_nil] at bind
  refine wpAny_call (PySem.HandSPX.call_own F (fun Y => refsT_has hbm Y) (I1.kIn _ _ hC) (PySem.W.looks_findIn I1.kIn iC) (fun self => PySem.W.bind_fn I1.kIn self tI) few
    (codeAny_mono (F1.run _ X.stack _ _ ⟨Value.ref (hp.objs.size + 1) :: us, []⟩ _ _ _ (fun _ _ _ => False) (hr.make C us []) (I2.env0.make C us []) bind r2 hq) fun r s3 z => ?_))
  cases r with
  | error er => exact hx pins σ _ _ er s3 I2 z
  | ok fl =>
    cases fl with
    | ret u =>
      obtain ⟨v, H2, same, bare, un, ok2, rv, ev, d, fs, ea, ed, free, q2⟩ := z
      subst ev
      obtain ⟨h2, g2, d2, t2, o2⟩ := s3
      exact ⟨rv, .ref (hp.objs.size + 1), _, mkT_end I1 young kp un ok2 same bare ea ed free, rfl, q2⟩
    | next => exact z.elim
    | brk => exact z.elim
    | cont => exact z.elim
end
end Eyes

set_option Elab.async false
set_option linter.all false
set_option maxRecDepth 100000
set_option maxHeartbeats 4000000
/-! Own errors made by keywords. -/
namespace Eyes
open PySem PySem.Spec PyProof.Rows L2 Evl
section
open PySem.W PySem.Calls PySem.HandSPX Builtin Builtin.ObjectAttr
variable {prog : Program} {w : World} {A : Around} {E : Value → Shared → Prop} {R : Result → Shared → Prop} {h : Heap} {g : Array GenState} {dr : Drawn} {t : Nat} {os : OsState} {kw : List (Str × Value)}
variable {nm q : Str} {C N : Addr} {bs bm tail : List Value} {hdct : Bool} {sn : List Str} {sub : List Value} {ab : Bool} {col : Option Bool} {dd : Option Addr} {k0 k1 k2 k3 k5 : Option Value} {B newId initId : String}
theorem check_newK (F : ExcBaseFacts B newId initId tail) (hT : refsT tail bm = true) {Q : Unit → Shared → Prop} (hC : h.get? C = some (excClassObj nm q C N bs bm hdct sn sub ab col dd k0 k1 k2 k3 k5 newId)) (z : Q () ⟨h, g, dr, t, os⟩) :
    wpAny (model prog w) A (checkBuiltinCall newId ⟨[.ref C], kw⟩) Q E ⟨h, g, dr, t, os⟩ := by
  have has : (Value.ref C :: bm).contains (.type B) = true := by
    rw [List.contains_cons, refsT_has hT, F.hasB, Bool.or_true]
  have star := F.noStar
  simp only [checkBuiltinCall, F.newKind, F.newSplit, F.newRow]
  repeat (first
    | refine wpAny_loadPart_at hC ?_
    | (refine wpAny_isSubtype_exc hC ?_; rw [has])
    | refine wpAny_staticBase_exc hC ?_
    | refine wpAny_madeBy_exc hC ?_
    | simp only [bne_self_eq_false, Bool.false_eq_true, if_false]
    | wp_step)
  exact z
theorem newK (F : ExcBaseFacts B newId initId tail) (hT : refsT tail bm = true) (hC : h.get? C = some (excClassObj nm q C N bs bm hdct sn sub ab col dd k0 k1 k2 k3 k5 newId))
    (z : R (.ok (.ret (.ref (h.objs.size + 1)))) ⟨(h.push (kdv_tup [])).push (excO C h.objs.size), g, dr, t, os⟩) : codeAny (model prog w) A (.builtin newId ⟨[.ref C], kw⟩) R ⟨h, g, dr, t, os⟩ := by
  have ends := F.ends
  have c1 : (Value.ref C :: bm).contains (.type B) = true := by
    rw [List.contains_cons, refsT_has hT, F.hasB, Bool.or_true]
  have c2 : (Value.ref C :: bm).contains (.type "AttributeError") = false := by
    rw [List.contains_cons, refsT_has hT, F.noAttr] <;> rfl
  have c3 : (Value.ref C :: bm).contains (.type "NameError") = false := by
    rw [List.contains_cons, refsT_has hT, F.noName] <;> rfl
  have few : ([] : List Value).length ≤ sizeLine := Nat.zero_le _
  refine codeAny_builtinAt F.entry ?_
  unfold Builtin.«BaseException.__new__»
  refine PySem.wpAt_bind ?_
  show PySem.wpAt _ _ _ (stack >>= _) _ _ _
  refine PySem.wpAt_bind (PySem.wpAt_stack fun _ _ => PySem.wpAt_of_wpAny ?_)
  wp_walk
  refine PySem.wpAt_of_wpAny ?_
  rw [F.owner]
  repeat (first
    | with_reducible refine wpAny_madeHere_exc F.canon hC ?_
    | with_reducible refine wpAny_loadPart_at hC ?_
    | (with_reducible refine wpAny_isSubtype_exc hC ?_; first | rw [c1] | rw [c2] | rw [c3])
    | wp_step)
  show R _ _
  rw [Heap.size_push]
  exact z
theorem type_callK (F : ExcBaseFacts B newId initId tail) (hT : refsT tail bm = true) {fI : Addr} {Q : PySem.Fin → Shared → Prop} (hC : h.get? C = some (excClassObj nm q C N bs bm hdct sn sub ab col dd k0 k1 k2 k3 k5 newId))
    (hi : Looks (model prog w) h (typeLookup (.ref C) "__init__") (some (.ref fI))) (hb : ∀ self, Looks (model prog w) h (bindSpecial (.ref fI) self) (.ref fI, [self]))
    (z : codeAny (model prog w) A (.call (.ref fI) ⟨[.ref (h.objs.size + 1)], kw⟩) (fun r s2 => match r with
        | .ok (.ret v) => v = .none ∧ Q (.done (.ret (.ref (h.objs.size + 1)))) s2
        | .ok _ => False
        | .error e => E e s2) ⟨(h.push (kdv_tup [])).push (excO C h.objs.size), g, dr, t, os⟩) :
    wpAny (model prog w) A (Builtin.«type.__call__» ⟨[.ref C], kw⟩) Q E ⟨h, g, dr, t, os⟩ := by
  repeat (first
    | with_reducible refine wpAny_loadPart_at hC ?_
    | with_reducible refine wpAny_madeBy_exc hC ?_
    | wp_step)
  refine codeAny_call_builtin_code (Code.quiet_builtin _ F.quiet) (check_newK F hT hC (newK F hT hC ?_))
  show wpAny _ _ _ _ _ _
  have kp : ∀ b o, h.get? b = some o → ((h.push (kdv_tup [])).push (excO C h.objs.size)).get? b = some o := fun b o e => Heap.get?_push_of_some _ (Heap.get?_push_of_some _ e)
  have cls := kp _ _ hC
  have obj : ((h.push (kdv_tup [])).push (excO C h.objs.size)).get? (h.objs.size + 1) = some (excO C h.objs.size) := by heap_get
  have self : (Value.ref C :: bm).contains (.ref C) = true := by simp
  have init := hi.keeps kp
  have bind := (hb (.ref (h.objs.size + 1))).keeps kp
  unfold isInstance
  repeat (first
    | with_reducible refine wpAny_loadPart_at obj ?_
    | (with_reducible refine wpAny_isSubtype_exc cls ?_; rw [self])
    | wp_step)
  show wpAny _ _ (typeLookup (.ref C) _) _ _ _
  refine init.at (wpAny_holding (wpAny_bind (bind.at (wpAny_bind (wpAny_call (codeAny_mono z fun r s2 z => ?_))))))
  cases r with
  | error e => exact z
  | ok f =>
    cases f with
    | ret v =>
      obtain ⟨rfl, z⟩ := z
      first
        | exact wpAny_pure (wpAny_pure z)
        | (wp_walk; exact z)
    | next => exact z.elim
    | brk => exact z.elim
    | cont => exact z.elim
theorem callK (F : ExcBaseFacts B newId initId tail) (hT : refsT tail bm = true) {fI : Addr} (hC : h.get? C = some (excClassObj nm q C N bs bm hdct sn sub ab col dd k0 k1 k2 k3 k5 newId))
    (hi : Looks (model prog w) h (typeLookup (.ref C) "__init__") (some (.ref fI))) (hb : ∀ self, Looks (model prog w) h (bindSpecial (.ref fI) self) (.ref fI, [self]))
    (z : codeAny (model prog w) (A.under (.builtin "type.__call__" ⟨[.ref C], kw⟩)) (.call (.ref fI) ⟨[.ref (h.objs.size + 1)], kw⟩) (InitBack (h.objs.size + 1) R) ⟨(h.push (kdv_tup [])).push (excO C h.objs.size), g, dr, t, os⟩) :
    codeAny (model prog w) A (.call (.ref C) ⟨[], kw⟩) R ⟨h, g, dr, t, os⟩ := by
  have f1 := tc_lookup
  have f2 := tc_bind (.ref C)
  have ty : (⟨h, g, dr, t, os⟩ : Shared).TypeIs (.ref C) "type" := ⟨_, hC, rfl⟩
  refine codeAny_of_tree ?_
  show wpAny _ _ (callAny (.ref C) _) _ _ _
  repeat (any_goals (first | assumption | with_reducible refine wpAny_loadPart_at hC ?_ | wp_step))
  refine ⟨rfl, ?_⟩
  refine codeAny_call_builtin_at (Code.quiet_builtin _ (by decide +kernel)) entry_typeCall (wpAny_check_type_call_sub hC (type_callK F hT hC hi hb ?_))
  refine codeAny_mono z fun r s2 z => ?_
  rcases r with e | (v | _ | _ | _) <;> exact z
end
theorem kbnI {K : PySem.W.Frag} {f : Addr} {fd : FuncData} {qual : Str} {st : Stmt} {ps ks : List Str} {is : List Nat} (F : Fun K "__init__" qual st f fd) (h : KwOkM "__init__" qual st ps ks is) : KBn K fd ps 1 ks (fun us ws => pick is (us ++ ws)) (fun vs zs => pick is (vs ++ zs)) := by
  obtain ⟨oc, od, kV, doc, pm, an, cdv, ct, osl, rfl, lk, hcd⟩ := F.ex
  exact ⟨fun s us ws _ e1 e2 => .of_eq (h kV doc pm an cdv ct us ws e1 e2), fun r1 r2 => pick_vals (Vals.append r1 r2) is⟩
def tMkK (C : Addr) (n : Nat) (sp : Sp) (is : List Nat) (tk : TA) : TE := fun σ H Q => tk σ H fun zs H1 => zs.length = n ∧ ∀ a, H1 a = none → sp (pick is ([.ref a] ++ zs)) (upd H1 a (exo a C none))
  (fun v H2 => v = .non ∧ ∃ (d : Addr) (fs : List (Str × V)), H2 a = some (exo a C (some d)) ∧ H2 d = some (exd d fs) ∧ H1 d = none ∧ Q (.ref a) (upd (upd H2 a (ExD a C d)) d (.xd fs))) (fun _ _ _ => False)
section
variable {X : Cx} {kws : List Keyword} {tk : TA} {p pos : Pos} {tail : List Value} {B newId initId : String}
theorem pe_mkK {CX : CXT} {x qual : Str} {st : Stmt} {C fI : Addr} {k : Nat} {fd : FuncData} {ps ks : List Str} {is : List Nat} {sp : Sp} (F : ExcBaseFacts B newId initId tail) (T : OexT X.K C tail newId) (iC : PySem.W.findIn X.K (.ref C) "__init__" = some (some (.ref fI)))
    (tI : PySem.W.typeIn X.K (.ref fI) = some (.type "function")) (F0 : Fun X.K "__init__" qual st fI fd) (F1 : FnOk X.prog X.w X.K X.mg X.base CX k fI fd ps sp) (hk : KwOkM "__init__" qual st ps ks is) (hr : Room (k + 1) X.A) (hx : Passes CX X (fun _ _ _ => False)) (hg : Gl X x) (hm : X.mg x = some (.ref C)) (hkw : PK X kws tk)
    (hall : (backToKw pos (keywordEach kws X.env)).all (·.1.isSome) = true := by rfl) (hks : (backToKw pos (keywordEach kws X.env)).filterMap (·.1) = ks := by rfl) (hdb : (x == ("__debug__" : Str)) = false := by decide)
    (hpl : ((backTo pos (starEach [] X.env)).any (·.1) || (backToKw pos (keywordEach kws X.env)).any (·.1.isNone)) = false := by rfl) :
    PE X (.Call (.Name x p) [] kws pos) (tMkK C ks.length sp is tk) := by
  constructor
  intro pins s σ H Q I h
  obtain ⟨nm, qn, N, bs, bm, sn, sub, ab, col, dd, k0, k1, k2, k3, k5, hC, hbm⟩ := T.cls
  refine wpAny_Call_Name_kw (ld_glob I hg hm ?_ hdb)
  refine PySem.W.callWith_KW0 (h₀ := X.base) I.ok.mod.kin T.kC hall (thn (hkw.run pos pins s σ H _ I h) fun ws s1 ⟨zs, H1, I1, rz, l1, q1⟩ => ⟨I1.kIn, ?_⟩) hpl
  rw [hks]
  show wpAny _ _ (call (.ref C) [] (ks.zip ws)) _ _ _
  obtain ⟨hp, g, dr, tt, os⟩ := s1
  have young : hp.objs.size ≤ hp.objs.size + 1 := Nat.le_succ _
  have hq := q1 (hp.objs.size + 1) (I1.hok.fresh young)
  have kp : ∀ b o, hp.get? b = some o → ((hp.push (PySem.W.kdv_tup [])).push (PySem.HandSPX.excO C hp.objs.size)).get? b = some o := fun b o z => Heap.get?_push_of_some _ (Heap.get?_push_of_some _ z)
  have there : ((hp.push (PySem.W.kdv_tup [])).push (PySem.HandSPX.excO C hp.objs.size)).get? (hp.objs.size + 1) = some (PySem.HandSPX.excO C hp.objs.size) := by heap_get
  have I2 := I1.laid (t' := tt) (a := hp.objs.size + 1) (o := exo (hp.objs.size + 1) C none) kp young (exo_ok there)
  have hb := kbnI F0 hk
  have r2 := hb.rel (vs := [.ref (hp.objs.size + 1)]) (us := [Value.ref (hp.objs.size + 1)]) (.cons rfl .nil) rz
  have bind := hb.to _ [Value.ref (hp.objs.size + 1)] ws I2.kIn rfl (rz.length.symm.trans l1)
  refine wpAny_call (callK F hbm (I1.kIn _ _ hC) (PySem.W.looks_findIn I1.kIn iC) (fun self => PySem.W.bind_fn I1.kIn self tI)
    (codeAny_mono (F1.run _ X.stack _ _ ⟨[Value.ref (hp.objs.size + 1)], ks.zip ws⟩ _ _ _ (fun _ _ _ => False) (hr.make C [] (ks.zip ws)) (I2.env0.make C [] (ks.zip ws)) bind r2 hq) fun r s3 z => ?_))
  cases r with
  | error er => exact hx pins σ _ _ er s3 I2 z
  | ok fl =>
    cases fl with
    | ret u =>
      obtain ⟨v, H2, same, bare, un, ok2, rv, ev, d, fs, ea, ed, free, q2⟩ := z
      subst ev
      obtain ⟨h2, g2, d2, t2, o2⟩ := s3
      exact ⟨rv, .ref (hp.objs.size + 1), _, mkT_end I1 young kp un ok2 same bare ea ed free, rfl, q2⟩
    | next => exact z.elim
    | brk => exact z.elim
    | cont => exact z.elim
theorem pe_exc0 {x : Str} {C : Addr} (F : ExcBaseFacts B newId initId tail) (q : PySem.W.excIn X.K C tail newId = true) (hm : X.mg x = some (.ref C)) (kC : PySem.W.keepIn X.K (.ref C) = true) (hg : Gl X x) (hdb : (x == ("__debug__" : Str)) = false := by decide) :
    PE X (.Call (.Name x p) [] [] pos) (fun _ H Q => ∀ a, H a = none → Q (.ref a) (upd H a (ExO (.ref C) a))) := by
  constructor
  intro pins s σ H Q I h
  refine wpAny_Call_Name_kw (ld_glob I hg hm ?_ hdb)
  refine PySem.W.callWith_K0 I.kIn kC ?_
  show wpAny _ _ (call (.ref C) []) _ _ _
  obtain ⟨bm, N, nm, qn, bs, hdct, sn, sub, ab, col, dd, k0, k1, k2, k3, k5, mN, hC, hN, hni, T⟩ := exc_obj I.kIn q
  refine wpAny_call_exc_subT F T hC hN hni (fun h2 a hm => ?_) (Nat.zero_le _)
  have free : H a = none := I.hok.gone hm.new
  obtain ⟨t, ht, _, _⟩ := hm.there
  exact ⟨.ref a, _, I.laidN hm.keeps hm.new free (exO_ok ht ⟨rfl, rfl⟩ rfl rfl rfl (show 4 < 6 by decide)), rfl, h a free⟩
theorem pmk_val {e : Expr} {te : TE} (hx : X.ex = []) (he : PE X e te) :
    PMk X e (fun σ H Q => te σ H fun x H1 => ∃ a C d, x = .ref a ∧ H1 a = some (ExD a C d) ∧ Fr0 X.H_0 a ∧ Raises X (.ref C) ∧ Q (.ref C) (some d) (delH H1 a)) := by
  intro pins s σ H Q I h
  refine thn (he.run pins s σ H _ I h) ?_
  rintro u s1 ⟨v, H1, I1, r1, a, C, d, rfl, ha, h0, hr, q⟩
  cases r1
  have x : ObjOk X.prog X.w H1 s1.heap a (.ext _) := I1.hok a _ ha
  obtain ⟨oe, vs, ho, hz, hd, h1, _⟩ := x.1
  obtain ⟨G, gs, ga, J⟩ := I1.untrack ha h0 hx
  exact ⟨a, oe, vs, { s1 with heap := G }, delH H1 a, .ref C, some d, rfl, J, gs, ga, ho, hz, hd, h1, delH_same, rfl, I1.bare, hr, q⟩
end
end Eyes

set_option Elab.async false
set_option linter.all false
set_option maxRecDepth 100000
set_option maxHeartbeats 4000000
/-! A caught error handed to a def that reads it. -/
namespace Eyes
open PySem PySem.Spec PyProof.Rows L2 Evl
open L2H (PinOk RoomH cxH inv_startH)
structure FnXP (P : Program) (w : World) (K : PySem.W.Frag) (mg : Str → Option Value) (base : Heap) (CX : CXT) (k : Nat) (f : Addr) (fd : FuncData) (ps : List Str) (sp : Addr × Obj → Sp) : Prop where
  len : ∀ p vs H Q E, sp p vs H Q E → vs.length = ps.length
  run : ∀ (A : Around) (outer : List Env) (s : Shared) (H : Hp) (args : Args) (us : List Value) (vs : List V) (Q : VK) (E : XK) (p : Addr × Obj), RoomH k A → PinOk outer H s p → Env0 P w K mg base A outer s H → BindsTo s fd args (ps.zip us) → Vals vs us → sp p vs H Q E →
    codeAny (model P w) A (.call (.ref f) args) (CR CX outer P w H s Q E) s
theorem fn_ofXP {CX : CXT} {P : Program} {w : World} {K : PySem.W.Frag} {mg : Str → Option Value} {base : Heap} {k : Nat} {f : Addr} {fd : FuncData} {x qual : Str} {st : Stmt} {N ps : List Str} {sp : Addr × Obj → Sp} (F : Fun K x qual st f fd) (S : FnScope N ps (defScope st))
    (len : ∀ p vs H Q E, sp p vs H Q E → vs.length = ps.length)
    (body : ∀ (cdv : Value) (A : Around) (outer : List Env) (s : Shared) (H : Hp) (vs : List V) (Q : VK) (E : XK) (p : Addr × Obj), RoomH k (A.deeper (envOfC qual (defScope st) s.heap.objs.size f cdv)) → sp p vs H Q E →
      ∃ t, PSs (cxH CX P w K mg base N qual (defScope st) f cdv A outer s H E p) (defBody st) t ∧ t { nx := fun _ H2 => Q .non H2, rt := Q } (L2.start N vs) H) : FnXP P w K mg base CX (k + 1) f fd ps sp := by
  obtain ⟨oc, od, kV, doc, pm, an, cdv, ct, osl, rfl, lk, hcd⟩ := F.ex
  refine ⟨len, fun A outer s H args us vs Q E p room pin e0 bind r h => ?_⟩
  have kin : K.In s.heap := e0.mod.kin.keeps fun b o z => (e0.bs b o z).1
  have lim : s.heap.NoLimit := e0.mod.nolimit.keeps fun b o z => (e0.bs b o z).1
  refine codeAny_call_function room.depth (kin _ _ lk) rfl S.co S.gen rfl (PySem.W.codeRec_of kin hcd) (bind _ _ _ _ ?_)
  refine wpAny_newFunctionEnv_cells S.kind ?_ ?_
  · rintro ⟨n, v⟩ hy
    rcases S.par n (List.of_mem_zip hy).1 with z | z
    · exact .inl z
    · exact .inr ⟨z, PySem.W.cellsFrom_some _ _ _ (.inl z)⟩
  rintro env rfl s1 x
  refine ⟨lim.keeps x.toInCall.keep, codeAny_func ?_⟩
  obtain ⟨t, ht, hq⟩ := body cdv A outer s H vs Q E p (room.deeper _) h
  have I := inv_startH (CX := CX) (E := E) S pin e0 (len _ _ _ _ _ h) r x
  refine wpAny_mono (ht.run [] s1 _ H _ I hq) (fun fl s2 z => ?_) fun _ _ z => z
  cases fl with
  | ret u =>
    obtain ⟨v, σ2, H2, J, rv, q⟩ := z
    exact ⟨v, H2, J.os, J.bare, J.base, J.hok, rv, q⟩
  | next =>
    obtain ⟨σ2, H2, J, q⟩ := z
    exact ⟨V.non, H2, J.os, J.bare, J.base, J.hok, rfl, q⟩
  | brk =>
    obtain ⟨_, _, _, q⟩ := z
    exact q.elim
  | cont =>
    obtain ⟨_, _, _, q⟩ := z
    exact q.elim
def PrXP (P : Program) (w : World) (K : PySem.W.Frag) (mg : Str → Option Value) (base : Heap) (x : Str) (st : Stmt) (ps : List Str) (k : Nat) (sp : Addr × Obj → Sp) : Prop :=
  ∃ (f : Addr) (fd : FuncData), mg x = some (.ref f) ∧ Fun K x x st f fd ∧ Binds K fd ps [] ∧ FnXP P w K mg base CX0 k f fd ps sp
theorem prxp_mk {P : Program} {w : World} {K : PySem.W.Frag} {mg : Str → Option Value} {base : Heap} {x : Str} {st : Stmt} {N ps : List Str} {k : Nat} {sp : Addr × Obj → Sp} (A : FnAt K mg x st ps) (S : FnScope N ps (defScope st)) (len : ∀ p vs H Q E, sp p vs H Q E → vs.length = ps.length)
    (body : ∀ (f : Addr) (cdv : Value) (A : Around) (outer : List Env) (s : Shared) (H : Hp) (vs : List V) (Q : VK) (E : XK) (p : Addr × Obj), RoomH k (A.deeper (envOfC x (defScope st) s.heap.objs.size f cdv)) → sp p vs H Q E →
      ∃ t, PSs (cxH CX0 P w K mg base N x (defScope st) f cdv A outer s H E p) (defBody st) t ∧ t { nx := fun _ H2 => Q .non H2, rt := Q } (L2.start N vs) H) : PrXP P w K mg base x st ps (k + 1) sp := by
  obtain ⟨f, fd, F, hb, hm⟩ := A
  exact ⟨f, fd, hm, F, hb, fn_ofXP F S len fun cdv A outer s H vs Q E p hr h => body f cdv A outer s H vs Q E p hr h⟩
def tCallP (sp : Sp) (t : TA) : TE := fun σ H Q => t σ H fun vs H1 => sp vs H1 Q (fun _ _ _ => False)
section
variable {X : Cx} {k j : Nat} {ps : List Str} {sp : Addr × Obj → Sp} {x : Str} {st : Stmt} {q pos : Pos} {e : Expr} {es : List Expr} {t : TA} {p : Addr × Obj}
theorem pcallP (G : PrXP X.prog X.w X.K X.mg X.base x st ps j sp) (hp : p ∈ X.pn) (hr : RoomH k X.A) (ha : PA X (e :: es) t) (hj : j ≤ k := by first | decide | omega) (hg : Gl X x := by rfl) (hdb : (x == ("__debug__" : Str)) = false := by decide)
    (he : starEach (e :: es) X.env = (false, eval e X.env) :: starEach es X.env := by rfl) (hpl : (backTo pos (starEach es X.env)).any (·.1) = false := by rfl) : PE X (.Call (.Name x q) (e :: es) [] pos) (tCallP (sp p) t) := by
  obtain ⟨f, fd, hm, F0, hb, F⟩ := G
  constructor
  intro pins s σ H Q I h
  refine wpAny_Call_Name_kw (ld_glob I hg hm ?_ hdb)
  refine PySem.W.callWith_K (h₀ := X.base) I.ok.mod.kin F0.kp (thn (ha.run pos pins s σ H _ I h) fun us s1 ⟨vs, H1, I1, r, z⟩ => ⟨I1.kIn, ?_⟩) he hpl
  show wpAny _ _ (call (.ref f) us) _ _ _
  have bind := hb s1 us I1.kIn (by rw [List.append_nil, ← r.length]; exact F.len _ _ _ _ _ z)
  rw [List.append_nil] at bind
  have stands := I1.pin p (List.mem_append_left _ hp)
  have pin : PinOk X.stack H1 s1 p := ⟨stands.1, stands.2.1, fun hm => (List.mem_cons.mp (I1.stkSub p.1 hm)).elim stands.2.2.1 stands.2.2.2.1, stands.2.2.2.2⟩
  refine wpAny_call (codeAny_mono (F.run X.A X.stack s1 H1 ⟨us, []⟩ us vs Q _ p (hr.mono hj) pin I1.env0 bind r z) fun r s2 z2 => ?_)
  cases r with
  | error er => exact False.elim z2
  | ok fl =>
    cases fl with
    | ret u => exact I1.after z2
    | next => exact z2.elim
    | brk => exact z2.elim
    | cont => exact z2.elim
end
def tXw (K : PySem.W.Frag) (pn : List (Addr × Obj)) (f : Str) (te : TE) : TE := fun σ H Q => te σ H fun x H1 => ∃ (a C dd : Addr) (fs : List (Str × V)) (v : V), x = .ref a ∧
  (IsX H1 a C (some dd) ∨ ∃ (p : Addr × Obj) (vs : Array Value), p ∈ pn ∧ p.1 = a ∧ Zc (.ref C) (some dd) p.2 ∧ p.2.data = .fields vs) ∧ XfC K C ∧ PySem.W.findIn K (.ref C) f = some none ∧ H1 dd = some (.xd fs) ∧ fs.lookup f = some v ∧ Q v H1
theorem pe_xw {X : Cx} {K : PySem.W.Frag} {pn : List (Addr × Obj)} {e : Expr} {te : TE} {n : Str} {pos : Pos} (hK : X.K = K) (hp : X.pn = pn) (he : PE X e te) (hb : attributeBase e n X.env (eval e X.env) = eval e X.env := by rfl) : PE X (.Attribute e n pos) (tXw K pn n te) := by
  subst hK hp
  constructor
  intro pins s σ H Q I h
  refine attr_of hb (thn (he.run pins s σ H _ I h) ?_)
  rintro u s1 ⟨x, H1, I1, rx, a, C, dd, fs, v, rfl, hx, T, hno, hd, hl, q⟩
  obtain rfl : u = Value.ref a := rx
  have stands : XvO a C (some dd) s1.heap := by
    rcases hx with hx | ⟨p, vs, hm, rfl, hz, hv⟩
    · exact hx.at I1.hok
    · exact ⟨p.2, vs, (I1.pin p (List.mem_append_left _ hm)).1, hz, hv⟩
  obtain ⟨oe, vs, ho, hz, hv⟩ := stands
  have hxd : ObjOk X.prog X.w H1 s1.heap dd (.xd fs) := I1.hok dd _ hd
  obtain ⟨mA, hns, hr⟩ := hxd
  obtain ⟨od, hod, hlk⟩ := lookIn_ns hns
  have hn := hr n
  rw [hl] at hn
  obtain ⟨y, hy, ry⟩ := RelO.some_of hn
  refine HandSPX.exc_get I1.kIn (ox := oe) (od := some od) ⟨ho, hz.1, ?_, ?_⟩ T.ga T.gg T.exC (PySem.W.findObj_own T.hdC hno rfl (by rw [hlk, hy])) (handed_of ry) ⟨v, H1, I1.tok _, ry, q⟩
  · unfold PySem.W.notCls
    rw [hv]
  · rw [hz.2]
    exact hod
end Eyes

set_option Elab.async false
set_option linter.all false
set_option maxRecDepth 100000
set_option maxHeartbeats 4000000
/-! try with clauses of any form: one class, two or three of them, named or not. -/
namespace Eyes
open PySem PySem.Spec PyProof.Rows L2
def Tells (X : Cx) (t : Expr) (cs : List Value) : Prop :=
  ∀ {pins : List (Addr × Obj)} {τ : L2.St} {G : Hp} {e : Addr} {B : Heap} {sI s1 : Shared} {cls : Value} {d : Option Addr} {y : Bool} {R : Result → Shared → Prop} {p2 : Pos}, Inv X pins τ G sI → (∀ b o, sI.heap.get? b = some o → b ∉ frs X.stack → B.get? b = some o) → sI.heap.UpToSlots s1.heap →
    HandSPX.FlyingZ B (X.env :: X.outer) e (Zc cls d) s1.heap → G e = none → s1.os = sI.os → AllBare s1.gens → e ≠ X.env.locals → e ∉ X.fs → PySem.W.exmAny X.K cls cs = some y →
    (∀ h2, HandSPX.FlyingZ B (X.env :: X.outer) e (Zc cls d) h2 → s1.heap.UpToSlots h2 → R (.ok (if y then .brk else .next)) { s1 with heap := h2 }) →
    codeAny (model X.prog X.w) (X.A.mark (some (.ref e))) (.handlers (.ref e) [.ExceptHandler (some t) none [] p2] X.env) R s1
theorem exm_1 {K : PySem.W.Frag} {cls c : Value} {y : Bool} (h : PySem.W.exmAny K cls [c] = some y) : PySem.W.exmOne K cls c = some y := by
  obtain ⟨b, d, h1, h2, rfl⟩ := PySem.W.exmAny_cons h
  cases h2
  rw [Bool.or_false]
  exact h1
theorem tells_one {X : Cx} {x : Str} {c : Value} {p1 : Pos} (hc : Names X x c) : Tells X (.Name x p1) [c] := by
  intro pins τ G e B sI s1 cls d y R p2 J nb up fl na os ag nL nF hy q
  obtain ⟨oe, fs, he, hz, hd⟩ := fl.there
  have here : Inv X pins τ G s1 := J.landed nb fl.1 up os ag
  have inS := here.suite he hd na nL nF
  have cl : PySem.W.Looks (model X.prog X.w) s1.heap (typeOf (.ref e)) cls := fun A2 Q2 E2 s2 kp z => wpAny_typeOf_ref (kp _ _ he) (by rw [hz.1]; exact z)
  have mt := PySem.W.exm_one (M := model X.prog X.w) here.kIn cl (exm_1 hy)
  have named : ∀ {Q2 E2 : Value → Shared → Prop}, Q2 c s1 → wpAny (model X.prog X.w) (X.A.mark (some (.ref e))) (eval (.Name x p1) X.env) Q2 E2 s1 := by
    intro Q2 E2 z
    obtain ⟨g1, g2, g3 | ⟨g3, g4, g5⟩⟩ := hc
    · exact ld_glob (X := X.suite e ((e, oe) :: (X.pn ++ pins))) inS g1 g3 z g2
    · exact ld_blt (X := X.suite e ((e, oe) :: (X.pn ++ pins))) inS g1 g3 g4 z g5 g2
  exact codeAny_handlers_test (named (mt.here (q _ fl (Heap.UpToSlots.of_keeps fun _ _ z => z))))
theorem fly_push {B h : Heap} {es : List Env} {e : Addr} {Z : Obj → Prop} {o : Obj} (fl : HandSPX.FlyingZ B es e Z h) : HandSPX.FlyingZ B es e Z (h.push o) := by
  have keeps : ∀ b u, h.get? b = some u → (h.push o).get? b = some u := fun b u z => Heap.get?_push_of_some _ z
  obtain ⟨a1, a2, a3, oe, vs, T, oT, t1, b1, b2, b3, b4, b5, b6, b7, b8, b9⟩ := fl
  exact ⟨fun b u z => keeps _ _ (a1 _ _ z), a2, a3.of_keeps (fun b u z _ => ⟨u, keeps _ _ z, rfl⟩), oe, vs, T, oT, t1, keeps _ _ b1, b2, b3, b4, b5, b6, keeps _ _ b7, b8, b9⟩
theorem tells_two {X : Cx} {x1 x2 : Str} {c1 c2 : Value} {p1 p2 p3 : Pos} {kk : Nat} (g1 : Gl X x1) (g2 : Gl X x2) (m1 : X.mg x1 = some c1) (m2 : X.mg x2 = some c2) (d1 : (x1 == Str.ofString "__debug__") = false := by decide) (d2 : (x2 == Str.ofString "__debug__") = false := by decide) :
    Tells X (.Tuple [.Name x1 p1, .Name x2 p2] kk p3) [c1, c2] := by
  intro pins τ G e B sI s1 cls d y R p4 J nb up fl na os ag nL nF hy q
  obtain ⟨oe, fs, he, hz, hd⟩ := fl.there
  have here : Inv X pins τ G s1 := J.landed nb fl.1 up os ag
  have inS := here.suite he hd na nL nF
  refine codeAny_handlers_test (wpAny_Tuple (spliced_more (ld_glob (X := X.suite e ((e, oe) :: (X.pn ++ pins))) inS g1 m1 (spliced_more (ld_glob (X := X.suite e ((e, oe) :: (X.pn ++ pins))) inS g2 m2 (spliced_none ⟨by show 2 ≤ sizeLine; decide, ?_⟩) d2) rfl) d1) rfl))
  have keeps : ∀ b o, s1.heap.get? b = some o → (s1.heap.push { cls := .type "tuple", data := .seq #[c1, c2] }).get? b = some o := fun b o z => Heap.get?_push_of_some _ z
  have upP : s1.heap.UpToSlots (s1.heap.push { cls := .type "tuple", data := .seq #[c1, c2] }) := Heap.UpToSlots.of_keeps keeps
  have there : Inv X pins τ G { s1 with heap := s1.heap.push { cls := .type "tuple", data := .seq #[c1, c2] } } := J.landed nb (fly_push fl).1 (up.trans upP) os ag
  have cl : PySem.W.Looks (model X.prog X.w) (s1.heap.push { cls := .type "tuple", data := .seq #[c1, c2] }) (typeOf (.ref e)) cls := fun A2 Q2 E2 s2 kp z => wpAny_typeOf_ref (kp _ _ (keeps _ _ he)) (by rw [hz.1]; exact z)
  exact (PySem.W.exm_tup2 (M := model X.prog X.w) there.kIn cl (Heap.get?_push_size _ rfl) hy).here (q _ (fly_push fl) upP)
theorem tells_three {X : Cx} {x1 x2 x3 : Str} {c1 c2 c3 : Value} {p1 p2 p3 p5 : Pos} {kk : Nat} (g1 : Gl X x1) (g2 : Gl X x2) (g3 : Gl X x3) (m1 : X.mg x1 = some c1) (m2 : X.mg x2 = some c2) (m3 : X.mg x3 = some c3) (d1 : (x1 == Str.ofString "__debug__") = false := by decide) (d2 : (x2 == Str.ofString "__debug__") = false := by decide)
    (d3 : (x3 == Str.ofString "__debug__") = false := by decide) : Tells X (.Tuple [.Name x1 p1, .Name x2 p2, .Name x3 p5] kk p3) [c1, c2, c3] := by
  intro pins τ G e B sI s1 cls d y R p4 J nb up fl na os ag nL nF hy q
  obtain ⟨oe, fs, he, hz, hd⟩ := fl.there
  have here : Inv X pins τ G s1 := J.landed nb fl.1 up os ag
  have inS := here.suite he hd na nL nF
  refine codeAny_handlers_test (wpAny_Tuple (spliced_more (ld_glob (X := X.suite e ((e, oe) :: (X.pn ++ pins))) inS g1 m1 (spliced_more (ld_glob (X := X.suite e ((e, oe) :: (X.pn ++ pins))) inS g2 m2 (spliced_more (ld_glob (X := X.suite e ((e, oe) :: (X.pn ++ pins))) inS g3 m3 (spliced_none ⟨by show 3 ≤ sizeLine; decide, ?_⟩) d3) rfl) d2) rfl) d1) rfl))
  have keeps : ∀ b o, s1.heap.get? b = some o → (s1.heap.push { cls := .type "tuple", data := .seq #[c1, c2, c3] }).get? b = some o := fun b o z => Heap.get?_push_of_some _ z
  have upP : s1.heap.UpToSlots (s1.heap.push { cls := .type "tuple", data := .seq #[c1, c2, c3] }) := Heap.UpToSlots.of_keeps keeps
  have there : Inv X pins τ G { s1 with heap := s1.heap.push { cls := .type "tuple", data := .seq #[c1, c2, c3] } } := J.landed nb (fly_push fl).1 (up.trans upP) os ag
  have cl : PySem.W.Looks (model X.prog X.w) (s1.heap.push { cls := .type "tuple", data := .seq #[c1, c2, c3] }) (typeOf (.ref e)) cls := fun A2 Q2 E2 s2 kp z => wpAny_typeOf_ref (kp _ _ (keeps _ _ he)) (by rw [hz.1]; exact z)
  exact (PySem.W.exm_tup3 (M := model X.prog X.w) there.kIn cl (Heap.get?_push_size _ rfl) hy).here (q _ (fly_push fl) upP)
abbrev Clause := List Value × Option Nat × (Addr → Value → Option Addr → TS)
def wG (K : PySem.W.Frag) (D : L2.Ends) : List Clause → WX
  | [] => fun _ _ _ _ => False
  | (cs, none, ts) :: r => fun cls d τ G => ∃ y, PySem.W.exmAny K cls cs = some y ∧ (y = true → ∀ e, G e = none → ts e cls d D τ G) ∧ (y = false → wG K D r cls d τ G)
  | (cs, some j, ts) :: r => fun cls d τ G => ∃ y, PySem.W.exmAny K cls cs = some y ∧ (y = true → ∀ e, G e = none → ts e cls d (endsAs D j) (τ.set j (some (.ref e))) G) ∧ (y = false → wG K D r cls d τ G)
inductive HdsG (X : Cx) : List ExceptHandler → List Clause → Prop
  | rest {hds : List ExceptHandler} : HdsG X hds []
  | as {t : Expr} {n : Str} {cs : List Value} {j : Nat} {ts : Addr → Value → Option Addr → TS} {st0 : Stmt} {sts : List Stmt} {p2 : Pos} {hds : List ExceptHandler} {l : List Clause} (hc : Tells X t cs) (hi : X.N[j]? = some n) (hl : X.env.kindOf n = some .local)
      (su : ∀ (e : Addr) (oe : Obj) (cls : Value) (d : Option Addr) (pn : List (Addr × Obj)), Zc cls d oe → (∃ fs, oe.data = .fields fs) → PSs (X.suite e ((e, oe) :: pn)) (st0 :: sts) (ts e cls d)) (r : HdsG X hds l) :
      HdsG X (.ExceptHandler (some t) (some n) (st0 :: sts) p2 :: hds) ((cs, some j, ts) :: l)
  | no {t : Expr} {cs : List Value} {ts : Addr → Value → Option Addr → TS} {st0 : Stmt} {sts : List Stmt} {p2 : Pos} {hds : List ExceptHandler} {l : List Clause} (hc : Tells X t cs)
      (su : ∀ (e : Addr) (oe : Obj) (cls : Value) (d : Option Addr) (pn : List (Addr × Obj)), Zc cls d oe → (∃ fs, oe.data = .fields fs) → PSs (X.suite e ((e, oe) :: pn)) (st0 :: sts) (ts e cls d)) (r : HdsG X hds l) :
      HdsG X (.ExceptHandler (some t) none (st0 :: sts) p2 :: hds) ((cs, none, ts) :: l)
section
variable {X : Cx} {body : List Stmt} {h1 : ExceptHandler} {hds : List ExceptHandler} {l : List Clause} {pos : Pos} {tb : WX → TS}
theorem clauses_g {pins : List (Addr × Obj)} {τ : L2.St} {G : Hp} {D : L2.Ends} {e : Addr} {B : Heap} {sI : Shared} {cls : Value} {d : Option Addr} (ok : X.Ok) (hs : X.stack = X.env :: X.outer) (hf : X.env.frame = some X.env.locals) (hN : X.N.Nodup)
    (J : Inv X pins τ G sI) (nb : ∀ b o, sI.heap.get? b = some o → b ∉ frs X.stack → B.get? b = some o) (na : G e = none) (nL : e ≠ X.env.locals) (nF : e ∉ X.fs) {hs2 : List ExceptHandler} {l2 : List Clause} (hh : HdsG X hs2 l2) :
    ∀ {s1 : Shared}, sI.heap.UpToSlots s1.heap → HandSPX.FlyingZ B (X.env :: X.outer) e (Zc cls d) s1.heap → s1.os = sI.os → AllBare s1.gens → wG X.K D l2 cls d τ G → wpAny (model X.prog X.w) X.A (handleBy (.ref e) X.env hs2) (SP X pins D) X.xe s1 := by
  induction hh with
  | rest => exact fun _ _ _ _ z => z.elim
  | @as t n cs j ts st0 sts p2 hds2 l3 hc hi hl su r ih =>
    rintro s1 up fl os ag ⟨y, hy, yes, no⟩
    refine wpAny_handleBy_cons (hc J nb up fl na os ag nL nF hy fun h2 fl2 up2 => ?_) (fun z => nomatch z)
    cases y with
    | false => exact ih (up.trans up2) fl2 os ag (no rfl)
    | true =>
      refine codeAny_handlers_suite_as (HandSPX.lands_againZ fl2 fun h4 fl4 up4 => ?_)
      obtain ⟨oe4, fs4, he4, hz4, hd4⟩ := fl4.there
      have at4 : Inv X pins τ G { s1 with heap := h4 } := J.landed nb fl4.1 ((up.trans up2).trans up4) os ag
      refine store_ok (X := X.suite e ((e, oe4) :: (X.pn ++ pins))) (v := .ref e) (at4.suite he4 hd4 na nL nF) hN hi (.inl hl) rfl (fun s5 I5 => ?_) (.inr hl)
      refine wpAny_mono ((su e oe4 cls d (X.pn ++ pins) hz4 ⟨_, hd4⟩).run [] s5 _ G _ I5 (yes rfl e na)) (fun f s6 q6 => ?_) (fun _ _ z => z.elim)
      have bare : ∀ {τ6 : L2.St} {G6 : Hp} {Q6 : Shared → Prop}, Inv (X.suite e ((e, oe4) :: (X.pn ++ pins))) [] τ6 G6 s6 → (∀ s7, Inv X pins (τ6.set j none) G6 s7 → Q6 s7) →
          wpAny (model X.prog X.w) X.A (do bindName X.env n .none; unbindBehindTheSuite X.env n p2) (fun _ s7 => Q6 s7) X.xe s6 := fun {τ6 G6 Q6} I6 q => gone_ok (I6.unsuite ok) hN hi hl q
      cases f with
      | next =>
        obtain ⟨τ6, G6, I6, w6⟩ := q6
        exact bare I6 fun s7 I7 => ⟨_, _, I7, w6⟩
      | brk =>
        obtain ⟨τ6, G6, I6, w6⟩ := q6
        exact bare I6 fun s7 I7 => ⟨_, _, I7, w6⟩
      | cont =>
        obtain ⟨τ6, G6, I6, w6⟩ := q6
        exact bare I6 fun s7 I7 => ⟨_, _, I7, w6⟩
      | ret u =>
        obtain ⟨v6, τ6, G6, I6, r6, w6⟩ := q6
        exact bare I6 fun s7 I7 => ⟨_, _, _, I7, r6, w6⟩
  | @no t cs ts st0 sts p2 hds2 l3 hc su r ih =>
    rintro s1 up fl os ag ⟨y, hy, yes, no⟩
    refine wpAny_handleBy_cons (hc J nb up fl na os ag nL nF hy fun h2 fl2 up2 => ?_) (fun z => nomatch z)
    cases y with
    | false => exact ih (up.trans up2) fl2 os ag (no rfl)
    | true =>
      refine codeAny_handlers_suite (HandSPX.lands_againZ fl2 fun h4 fl4 up4 => ?_)
      obtain ⟨oe4, fs4, he4, hz4, hd4⟩ := fl4.there
      have at4 : Inv X pins τ G { s1 with heap := h4 } := J.landed nb fl4.1 ((up.trans up2).trans up4) os ag
      refine wpAny_mono ((su e oe4 cls d (X.pn ++ pins) hz4 ⟨_, hd4⟩).run [] _ τ G _ (at4.suite he4 hd4 na nL nF) (yes rfl e na)) (fun f s6 q6 => ?_) (fun _ _ z => z.elim)
      cases f with
      | next =>
        obtain ⟨τ6, G6, I6, w6⟩ := q6
        exact ⟨_, _, I6.unsuite ok, w6⟩
      | brk =>
        obtain ⟨τ6, G6, I6, w6⟩ := q6
        exact ⟨_, _, I6.unsuite ok, w6⟩
      | cont =>
        obtain ⟨τ6, G6, I6, w6⟩ := q6
        exact ⟨_, _, I6.unsuite ok, w6⟩
      | ret u =>
        obtain ⟨v6, τ6, G6, I6, r6, w6⟩ := q6
        exact ⟨_, _, _, I6.unsuite ok, r6, w6⟩
theorem ps_tryG (hs : X.stack = X.env :: X.outer) (hf : X.env.frame = some X.env.locals) (hN : X.N.Nodup)
    (hb : ∀ (W : WX) (pn : List (Addr × Obj)) (xe : Value → Shared → Prop), Takes (X.tr pn xe) W → PassesOwn (model X.prog X.w) X.A X.env xe → PSs (X.tr pn xe) body (tb W)) (hh : HdsG X (h1 :: hds) l) :
    PS X (.Try body (h1 :: hds) [] [] pos) (fun D τ G => tb (wG X.K D l) D τ G) := by
  refine ⟨fun pins s τ G D I h => ?_⟩
  have ok := I.ok
  have stk : X.A.frames = some (X.env :: X.outer) := ok.frames.trans (by rw [hs])
  have out : Takes (X.tr (X.pn ++ pins) (fun u s2 => wpAny (model X.prog X.w) X.A (noteFrame u X.env) (fun _ s3 => wpAny (model X.prog X.w) X.A (setFlight u none) (fun _ s4 => wpAny (model X.prog X.w) X.A (handleBy u X.env (h1 :: hds)) (SP X pins D) X.xe s4) X.xe s3) X.xe s2)) (wG X.K D l) := by
    rintro u s2 ⟨e, B, sI, pins2, τ2, G2, cls, d, rfl, J2, nb, up, sky, na, os, ag, w⟩
    have J : Inv X pins τ2 G2 sI := J2.ofTry ok
    refine Sky.land (B := B) (L := X.env.locals) (Z := Zc cls d) Zc.steady stk hf (by rw [← hs]; exact sky) fun h3 fl up3 => ?_
    obtain ⟨oe, fs, he, hz, hd⟩ := fl.there
    have away : e ∉ frs (X.env :: X.outer) := fun hm => by
      obtain ⟨_, o2, e2, nf⟩ := fl.2.2.1.mem hm
      cases he.symm.trans e2
      exact nf _ hd
    refine clauses_g (s1 := { s2 with heap := h3 }) ok hs hf hN J nb na (fun z => away (List.mem_filterMap.mpr ⟨X.env, List.mem_cons_self, by rw [hf, z]⟩)) (fun hm => ?_) hh (up.trans up3) fl os ag w
    obtain ⟨v, hv, q⟩ := List.mem_filterMap.mp hm
    exact away (List.mem_filterMap.mpr ⟨v, List.mem_cons_of_mem _ hv, q⟩)
  refine wpAny_Try_except (wpAny_mono ((hb _ _ _ out PassesOwn.looking).run [] s τ G D (I.toTry _) h) (fun f s1 q => ?_) fun _ _ z => z)
  cases f with
  | next =>
    obtain ⟨τ1, G1, I1, w1⟩ := q
    exact wpAny_execs_nil ⟨τ1, G1, I1.ofTry ok, w1⟩
  | brk =>
    obtain ⟨τ1, G1, I1, w1⟩ := q
    exact ⟨τ1, G1, I1.ofTry ok, w1⟩
  | cont =>
    obtain ⟨τ1, G1, I1, w1⟩ := q
    exact ⟨τ1, G1, I1.ofTry ok, w1⟩
  | ret u =>
    obtain ⟨v1, τ1, G1, I1, r1, w1⟩ := q
    exact ⟨v1, τ1, G1, I1.ofTry ok, r1, w1⟩
end
end Eyes

set_option Elab.async false
set_option linter.all false
set_option maxRecDepth 100000
set_option maxHeartbeats 4000000
/-! Own errors with two fields, raised. -/
namespace Eyes
open PySem PySem.Spec PyProof.Rows L2 Evl TL
def spErr2 (C : Addr) (g1 g2 : Str) : Sp := fun vs H Q _ => ∃ (a : Addr) (v u : V), vs = [.ref a, v, u] ∧ H a = some (exo a C none) ∧ ∀ d, H d = none → d ≠ a → Q .non (upd (upd (upd H d (exd d [(g1, v)])) a (exo a C (some d))) d (exd d [(g2, u), (g1, v)]))
section
variable {X : Cx} {W : WX} {e e2 : Expr} {ta : TA} {p pos pos2 : Pos} {x g1 g2 qual : Str} {C : Addr} {st : Stmt} {ps : List Str} {j k : Nat}
end
end Eyes

set_option Elab.async false
set_option linter.all false
set_option maxRecDepth 100000
set_option maxHeartbeats 4000000
/-! Error classes of the text, over any base. -/
namespace Eyes
open PySem PySem.Spec PyProof.Rows L2 Evl
abbrev tlV : List Value := [.type "ValueError", .type "Exception", .type "BaseException", .type "object"]
abbrev tlL : List Value := [.type "LookupError", .type "Exception", .type "BaseException", .type "object"]
abbrev tlI : List Value := [.type "IndexError", .type "LookupError", .type "Exception", .type "BaseException", .type "object"]
structure ErrT (K : PySem.W.Frag) (C : Addr) (qual : Str) (st : Stmt) (ps : List Str) (tail : List Value) (newId : String) : Prop where
  oex : OexT K C tail newId
  xf : XfC K C
  ec : ExcC K C
  fn : ∃ (f : Addr) (fd : FuncData), PySem.W.findIn K (.ref C) "__init__" = some (some (.ref f)) ∧ PySem.W.typeIn K (.ref f) = some (.type "function") ∧ Fun K "__init__" qual st f fd ∧ Binds K fd ps []
structure ErrN (K : PySem.W.Frag) (C : Addr) (tail : List Value) (newId : String) : Prop where
  exc : PySem.W.excIn K C tail newId = true
  ec : ExcC K C
  exC : PySem.W.subIn K (.ref C) (.type "BaseException") = some true
  tyC : PySem.W.typeIn K (.ref C) = some (.type "type")
  kC : PySem.W.keepIn K (.ref C) = true
theorem excC_of {K : PySem.W.Frag} {C : Addr} (x : xfB K C = true) (ha : PySem.W.findIn K (.ref C) "__class__" = some (some (.builtin "object.__class__"))) (hn : PySem.W.specialIn K (.builtin "object.__class__") "__get__" = some (some (.builtin "getset_descriptor.__get__")))
    (ht : PySem.W.takesIn K (.builtin "object.__class__") = some true) (hm : PySem.W.mroIn K C (.type "object") = some true) : ExcC K C := ⟨(xfB_ok x).ga, (xfB_ok x).gg, (xfB_ok x).exC, (xfB_ok x).hdC, ha, hn, ht, hm⟩
theorem errT_mk {K : PySem.W.Frag} {qual : Str} {C f : Addr} {st : Stmt} {ps : List Str} {tail : List Value} {newId : String} {oc : Value} {od an : Option Addr} {osl : Array (Option Value)} {kV doc pm cdv ct : Value}
    {nm q : Str} {N : Addr} {bs bm sub : List Value} {sn : List Str} {ab : Bool} {col : Option Bool} {dd : Option Addr} {k0 k1 k2 k3 k5 : Option Value}
    (c1 : K.lookup C = some (excClassObj nm q C N bs bm true sn sub ab col dd k0 k1 k2 k3 k5 newId)) (c2 : refsT tail bm = true) (c3 : PySem.W.findIn K (.ref C) "__setattr__" = some (some (.builtin "object.__setattr__"))) (c4 : PySem.W.subIn K (.ref C) (.type "BaseException") = some true)
    (c5 : PySem.W.typeIn K (.ref C) = some (.type "type")) (c6 : PySem.W.keepIn K (.ref C) = true) (c7 : xfB K C = true) (i1 : PySem.W.findIn K (.ref C) "__init__" = some (some (.ref f))) (i2 : PySem.W.typeIn K (.ref f) = some (.type "function"))
    (l : K.lookup f = some ⟨oc, od, .func (PySem.W.fnOf "__init__" qual (defArgs st) (defBody st) (defScope st) .none kV doc pm an cdv ct), osl⟩) (c : PySem.W.codeIn K cdv qual = true) (k : PySem.W.keepIn K (.ref f) = true)
    (e1 : PySem.W.findIn K (.ref C) "__class__" = some (some (.builtin "object.__class__"))) (e2 : PySem.W.specialIn K (.builtin "object.__class__") "__get__" = some (some (.builtin "getset_descriptor.__get__"))) (e3 : PySem.W.takesIn K (.builtin "object.__class__") = some true) (e4 : PySem.W.mroIn K C (.type "object") = some true)
    (hb : BindH "__init__" qual st ps) : ErrT K C qual st ps tail newId :=
  ⟨⟨⟨_, _, _, _, _, _, _, _, _, _, _, _, _, _, _, c1, c2⟩, c3, c4, c5, c6⟩, xfB_ok c7, excC_of c7 e1 e2 e3 e4, f, _, i1, i2, fun_mk l c k, (fun_mk l c k).binds hb⟩
theorem errN_mk {K : PySem.W.Frag} {C : Addr} {tail : List Value} {newId : String} (x : PySem.W.excIn K C tail newId = true) (c4 : PySem.W.subIn K (.ref C) (.type "BaseException") = some true) (c5 : PySem.W.typeIn K (.ref C) = some (.type "type")) (c6 : PySem.W.keepIn K (.ref C) = true) (c7 : xfB K C = true)
    (e1 : PySem.W.findIn K (.ref C) "__class__" = some (some (.builtin "object.__class__"))) (e2 : PySem.W.specialIn K (.builtin "object.__class__") "__get__" = some (some (.builtin "getset_descriptor.__get__"))) (e3 : PySem.W.takesIn K (.builtin "object.__class__") = some true) (e4 : PySem.W.mroIn K C (.type "object") = some true) : ErrN K C tail newId :=
  ⟨x, excC_of c7 e1 e2 e3 e4, c4, c5, c6⟩
/-! ### made, read -/
section
variable {X : Cx} {e : Expr} {es : List Expr} {ta tk : TA} {p pos : Pos} {x qual : Str} {C : Addr} {st : Stmt} {ps ks : List Str} {is : List Nat} {tail : List Value} {B newId initId : String} {j k : Nat} {sp : Sp} {kws : List Keyword}
theorem pmkE (hm : X.mg x = some (.ref C)) (T : ErrT X.K C qual st ps tail newId) (FB : ExcBaseFacts B newId initId tail) (F : ∀ f fd, Fun X.K "__init__" qual st f fd → Binds X.K fd ps [] → FnOk X.prog X.w X.K X.mg X.base CX0 j f fd ps sp) (hr : Room k X.A) (ha : PA X (e :: es) ta) (hj : j + 1 ≤ k := by first | decide | omega) (hg : Gl X x := by rfl)
    (hdb : (x == ("__debug__" : Str)) = false := by decide) (he : starEach (e :: es) X.env = (false, eval e X.env) :: starEach es X.env := by rfl) (hpl : (backTo pos (starEach es X.env)).any (·.1) = false := by rfl) : PE X (.Call (.Name x p) (e :: es) [] pos) (tMkT C sp ta) := by
  obtain ⟨f, fd, i1, i2, F0, hb⟩ := T.fn
  exact pe_mkT FB T.oex i1 i2 (F f fd F0 hb) (hr.mono hj) hb (fun _ _ _ _ _ _ _ h => h.elim) hg hm ha hdb he hpl
theorem pmkEK (hm : X.mg x = some (.ref C)) (T : ErrT X.K C qual st ps tail newId) (FB : ExcBaseFacts B newId initId tail) (F : ∀ f fd, Fun X.K "__init__" qual st f fd → Binds X.K fd ps [] → FnOk X.prog X.w X.K X.mg X.base CX0 j f fd ps sp) (hk : KwOkM "__init__" qual st ps ks is) (hr : Room k X.A) (hkw : PK X kws tk) (hj : j + 1 ≤ k := by first | decide | omega)
    (hg : Gl X x := by rfl) (hall : (backToKw pos (keywordEach kws X.env)).all (·.1.isSome) = true := by rfl) (hks : (backToKw pos (keywordEach kws X.env)).filterMap (·.1) = ks := by rfl) (hdb : (x == ("__debug__" : Str)) = false := by decide)
    (hpl : ((backTo pos (starEach [] X.env)).any (·.1) || (backToKw pos (keywordEach kws X.env)).any (·.1.isNone)) = false := by rfl) : PE X (.Call (.Name x p) [] kws pos) (tMkK C ks.length sp is tk) := by
  obtain ⟨f, fd, i1, i2, F0, hb⟩ := T.fn
  exact pe_mkK FB T.oex i1 i2 F0 (F f fd F0 hb) hk (hr.mono hj) (fun _ _ _ _ _ _ _ h => h.elim) hg hm hkw hall hks hdb hpl
end
def ErrV (H : Hp) (v : V) (C : Addr) (fs : List (Str × V)) : Prop := ∃ a, v = .ref a ∧ ((∃ d, IsX H a C (some d) ∧ H d = some (.xd fs)) ∨ (IsX H a C none ∧ fs = []))
theorem ErrV.mono {H H' : Hp} {v : V} {C : Addr} {fs : List (Str × V)} (h : ErrV H v C fs) (e : Ex H H') : ErrV H' v C fs := by
  obtain ⟨a, rfl, ⟨d, h1, h2⟩ | ⟨h1, rfl⟩⟩ := h
  · exact ⟨a, rfl, .inl ⟨d, h1.mono e, e _ _ h2⟩⟩
  · exact ⟨a, rfl, .inr ⟨h1.mono e, rfl⟩⟩
theorem made_to {H1 : Hp} {a d : Addr} {o1 o2 o3 o4 o5 : HO} (ne : d ≠ a) : upd (upd (upd (upd (upd H1 a o1) d o2) a o3) a o4) d o5 = upd (upd H1 a o4) d o5 := by
  funext b
  by_cases hb : b = d
  · rw [hb, upd_same, upd_same]
  rw [upd_ne hb, upd_ne hb]
  by_cases ha : b = a
  · rw [ha, upd_same, upd_same]
  · rw [upd_ne ha, upd_ne ha, upd_ne ha, upd_ne hb, upd_ne ha]
section
variable {H1 : Hp} {C : Addr} {g g2 : Str} {v u : V} {Q : VK}
def Made1 (H1 : Hp) (C : Addr) (fs : List (Str × V)) (Q : VK) : Prop := ∀ u H2, Ex H1 H2 → ErrV H2 u C fs → Q u H2
theorem made_to2 {H1 : Hp} {a d : Addr} {o1 o2 o3 o4 o5 o6 : HO} (ne : d ≠ a) : upd (upd (upd (upd (upd (upd H1 a o1) d o2) a o3) d o4) a o5) d o6 = upd (upd H1 a o5) d o6 := by
  funext b
  by_cases hb : b = d
  · rw [hb, upd_same, upd_same]
  rw [upd_ne hb, upd_ne hb]
  by_cases ha : b = a
  · rw [ha, upd_same, upd_same]
  · rw [upd_ne ha, upd_ne hb, upd_ne ha, upd_ne hb, upd_ne ha, upd_ne ha]
end
end Eyes

set_option Elab.async false
set_option linter.all false
set_option maxRecDepth 100000
set_option maxHeartbeats 4000000
namespace Eyes
open PySem PySem.Spec PyProof.Rows L2 Evl TL
def topS (i : Nat) : Stmt := PySem.Challenge.pw_pooledeyes_k00_errors_by_themselves.main.body.getD i (.Pass ⟨0, 0, 0, 0⟩)
abbrev s_InvalidName___init : Stmt := inClass (topS 2) 0
abbrev n_InvalidName___init : List Str := ["self", "value"]
abbrev p_InvalidName___init : List Str := ["self", "value"]
theorem sc_InvalidName___init : FnScope n_InvalidName___init p_InvalidName___init (defScope s_InvalidName___init) := ⟨rfl, rfl, rfl, by decide +kernel, rfl, by decide +kernel, by decide +kernel⟩
abbrev s_InvalidNumber___init : Stmt := inClass (topS 3) 0
abbrev n_InvalidNumber___init : List Str := ["self", "value"]
abbrev p_InvalidNumber___init : List Str := ["self", "value"]
theorem sc_InvalidNumber___init : FnScope n_InvalidNumber___init p_InvalidNumber___init (defScope s_InvalidNumber___init) := ⟨rfl, rfl, rfl, by decide +kernel, rfl, by decide +kernel, by decide +kernel⟩
abbrev s_InvalidText___init : Stmt := inClass (topS 4) 0
abbrev n_InvalidText___init : List Str := ["self", "at"]
abbrev p_InvalidText___init : List Str := ["self", "at"]
theorem sc_InvalidText___init : FnScope n_InvalidText___init p_InvalidText___init (defScope s_InvalidText___init) := ⟨rfl, rfl, rfl, by decide +kernel, rfl, by decide +kernel, by decide +kernel⟩
abbrev s_InvalidCircle___init : Stmt := inClass (topS 5) 0
abbrev n_InvalidCircle___init : List Str := ["self", "at"]
abbrev p_InvalidCircle___init : List Str := ["self", "at"]
theorem sc_InvalidCircle___init : FnScope n_InvalidCircle___init p_InvalidCircle___init (defScope s_InvalidCircle___init) := ⟨rfl, rfl, rfl, by decide +kernel, rfl, by decide +kernel, by decide +kernel⟩
abbrev s_InvalidTie___init : Stmt := inClass (topS 6) 0
abbrev n_InvalidTie___init : List Str := ["self", "at"]
abbrev p_InvalidTie___init : List Str := ["self", "at"]
theorem sc_InvalidTie___init : FnScope n_InvalidTie___init p_InvalidTie___init (defScope s_InvalidTie___init) := ⟨rfl, rfl, rfl, by decide +kernel, rfl, by decide +kernel, by decide +kernel⟩
abbrev s_InvalidParting___init : Stmt := inClass (topS 7) 0
abbrev n_InvalidParting___init : List Str := ["self", "value"]
abbrev p_InvalidParting___init : List Str := ["self", "value"]
theorem sc_InvalidParting___init : FnScope n_InvalidParting___init p_InvalidParting___init (defScope s_InvalidParting___init) := ⟨rfl, rfl, rfl, by decide +kernel, rfl, by decide +kernel, by decide +kernel⟩
abbrev s_InvalidCase___init : Stmt := inClass (topS 8) 0
abbrev n_InvalidCase___init : List Str := ["self", "value"]
abbrev p_InvalidCase___init : List Str := ["self", "value"]
theorem sc_InvalidCase___init : FnScope n_InvalidCase___init p_InvalidCase___init (defScope s_InvalidCase___init) := ⟨rfl, rfl, rfl, by decide +kernel, rfl, by decide +kernel, by decide +kernel⟩
abbrev s_InvalidGrant___init : Stmt := inClass (topS 9) 0
abbrev n_InvalidGrant___init : List Str := ["self", "at"]
abbrev p_InvalidGrant___init : List Str := ["self", "at"]
theorem sc_InvalidGrant___init : FnScope n_InvalidGrant___init p_InvalidGrant___init (defScope s_InvalidGrant___init) := ⟨rfl, rfl, rfl, by decide +kernel, rfl, by decide +kernel, by decide +kernel⟩
abbrev s_InvalidBan___init : Stmt := inClass (topS 10) 0
abbrev n_InvalidBan___init : List Str := ["self", "at"]
abbrev p_InvalidBan___init : List Str := ["self", "at"]
theorem sc_InvalidBan___init : FnScope n_InvalidBan___init p_InvalidBan___init (defScope s_InvalidBan___init) := ⟨rfl, rfl, rfl, by decide +kernel, rfl, by decide +kernel, by decide +kernel⟩
abbrev s_InvalidShare___init : Stmt := inClass (topS 11) 0
abbrev n_InvalidShare___init : List Str := ["self", "at"]
abbrev p_InvalidShare___init : List Str := ["self", "at"]
theorem sc_InvalidShare___init : FnScope n_InvalidShare___init p_InvalidShare___init (defScope s_InvalidShare___init) := ⟨rfl, rfl, rfl, by decide +kernel, rfl, by decide +kernel, by decide +kernel⟩
abbrev s_InvalidSaying___init : Stmt := inClass (topS 12) 0
abbrev n_InvalidSaying___init : List Str := ["self", "at"]
abbrev p_InvalidSaying___init : List Str := ["self", "at"]
theorem sc_InvalidSaying___init : FnScope n_InvalidSaying___init p_InvalidSaying___init (defScope s_InvalidSaying___init) := ⟨rfl, rfl, rfl, by decide +kernel, rfl, by decide +kernel, by decide +kernel⟩
abbrev s_InvalidLog___init : Stmt := inClass (topS 13) 0
abbrev n_InvalidLog___init : List Str := ["self", "at"]
abbrev p_InvalidLog___init : List Str := ["self", "at"]
theorem sc_InvalidLog___init : FnScope n_InvalidLog___init p_InvalidLog___init (defScope s_InvalidLog___init) := ⟨rfl, rfl, rfl, by decide +kernel, rfl, by decide +kernel, by decide +kernel⟩
abbrev s_InvalidLot___init : Stmt := inClass (topS 14) 0
abbrev n_InvalidLot___init : List Str := ["self", "at"]
abbrev p_InvalidLot___init : List Str := ["self", "at"]
theorem sc_InvalidLot___init : FnScope n_InvalidLot___init p_InvalidLot___init (defScope s_InvalidLot___init) := ⟨rfl, rfl, rfl, by decide +kernel, rfl, by decide +kernel, by decide +kernel⟩
abbrev s_InvalidDeed___init : Stmt := inClass (topS 16) 0
abbrev n_InvalidDeed___init : List Str := ["self", "at"]
abbrev p_InvalidDeed___init : List Str := ["self", "at"]
theorem sc_InvalidDeed___init : FnScope n_InvalidDeed___init p_InvalidDeed___init (defScope s_InvalidDeed___init) := ⟨rfl, rfl, rfl, by decide +kernel, rfl, by decide +kernel, by decide +kernel⟩
abbrev s_TooMany___init : Stmt := inClass (topS 18) 0
abbrev n_TooMany___init : List Str := ["self", "what", "most"]
abbrev p_TooMany___init : List Str := ["self", "what", "most"]
theorem sc_TooMany___init : FnScope n_TooMany___init p_TooMany___init (defScope s_TooMany___init) := ⟨rfl, rfl, rfl, by decide +kernel, rfl, by decide +kernel, by decide +kernel⟩
abbrev s_NotAlike___init : Stmt := inClass (topS 19) 0
abbrev n_NotAlike___init : List Str := ["self", "one", "other"]
abbrev p_NotAlike___init : List Str := ["self", "one", "other"]
theorem sc_NotAlike___init : FnScope n_NotAlike___init p_NotAlike___init (defScope s_NotAlike___init) := ⟨rfl, rfl, rfl, by decide +kernel, rfl, by decide +kernel, by decide +kernel⟩
abbrev s_CommonShown___init : Stmt := inClass (topS 20) 0
abbrev n_CommonShown___init : List Str := ["self", "at"]
abbrev p_CommonShown___init : List Str := ["self", "at"]
theorem sc_CommonShown___init : FnScope n_CommonShown___init p_CommonShown___init (defScope s_CommonShown___init) := ⟨rfl, rfl, rfl, by decide +kernel, rfl, by decide +kernel, by decide +kernel⟩
abbrev s_NotSafe___init : Stmt := inClass (topS 23) 0
abbrev n_NotSafe___init : List Str := ["self", "at"]
abbrev p_NotSafe___init : List Str := ["self", "at"]
theorem sc_NotSafe___init : FnScope n_NotSafe___init p_NotSafe___init (defScope s_NotSafe___init) := ⟨rfl, rfl, rfl, by decide +kernel, rfl, by decide +kernel, by decide +kernel⟩
abbrev s_CannotStand___init : Stmt := inClass (topS 24) 0
abbrev n_CannotStand___init : List Str := ["self", "at"]
abbrev p_CannotStand___init : List Str := ["self", "at"]
theorem sc_CannotStand___init : FnScope n_CannotStand___init p_CannotStand___init (defScope s_CannotStand___init) := ⟨rfl, rfl, rfl, by decide +kernel, rfl, by decide +kernel, by decide +kernel⟩
abbrev s_NameTaken___init : Stmt := inClass (topS 25) 0
abbrev n_NameTaken___init : List Str := ["self", "name"]
abbrev p_NameTaken___init : List Str := ["self", "name"]
theorem sc_NameTaken___init : FnScope n_NameTaken___init p_NameTaken___init (defScope s_NameTaken___init) := ⟨rfl, rfl, rfl, by decide +kernel, rfl, by decide +kernel, by decide +kernel⟩
abbrev s_InUse___init : Stmt := inClass (topS 26) 0
abbrev n_InUse___init : List Str := ["self", "name"]
abbrev p_InUse___init : List Str := ["self", "name"]
theorem sc_InUse___init : FnScope n_InUse___init p_InUse___init (defScope s_InUse___init) := ⟨rfl, rfl, rfl, by decide +kernel, rfl, by decide +kernel, by decide +kernel⟩
abbrev s_UnknownName___init : Stmt := inClass (topS 28) 0
abbrev n_UnknownName___init : List Str := ["self", "name"]
abbrev p_UnknownName___init : List Str := ["self", "name"]
theorem sc_UnknownName___init : FnScope n_UnknownName___init p_UnknownName___init (defScope s_UnknownName___init) := ⟨rfl, rfl, rfl, by decide +kernel, rfl, by decide +kernel, by decide +kernel⟩
abbrev s_UnknownEye___init : Stmt := inClass (topS 29) 0
abbrev n_UnknownEye___init : List Str := ["self", "name"]
abbrev p_UnknownEye___init : List Str := ["self", "name"]
theorem sc_UnknownEye___init : FnScope n_UnknownEye___init p_UnknownEye___init (defScope s_UnknownEye___init) := ⟨rfl, rfl, rfl, by decide +kernel, rfl, by decide +kernel, by decide +kernel⟩
abbrev s_UnknownGrant___init : Stmt := inClass (topS 30) 0
abbrev n_UnknownGrant___init : List Str := ["self", "at"]
abbrev p_UnknownGrant___init : List Str := ["self", "at"]
theorem sc_UnknownGrant___init : FnScope n_UnknownGrant___init p_UnknownGrant___init (defScope s_UnknownGrant___init) := ⟨rfl, rfl, rfl, by decide +kernel, rfl, by decide +kernel, by decide +kernel⟩
abbrev s_UnknownBan___init : Stmt := inClass (topS 31) 0
abbrev n_UnknownBan___init : List Str := ["self", "at"]
abbrev p_UnknownBan___init : List Str := ["self", "at"]
theorem sc_UnknownBan___init : FnScope n_UnknownBan___init p_UnknownBan___init (defScope s_UnknownBan___init) := ⟨rfl, rfl, rfl, by decide +kernel, rfl, by decide +kernel, by decide +kernel⟩
abbrev s_UnknownShare___init : Stmt := inClass (topS 32) 0
abbrev n_UnknownShare___init : List Str := ["self", "at"]
abbrev p_UnknownShare___init : List Str := ["self", "at"]
theorem sc_UnknownShare___init : FnScope n_UnknownShare___init p_UnknownShare___init (defScope s_UnknownShare___init) := ⟨rfl, rfl, rfl, by decide +kernel, rfl, by decide +kernel, by decide +kernel⟩
abbrev s_UnknownSaying___init : Stmt := inClass (topS 33) 0
abbrev n_UnknownSaying___init : List Str := ["self", "at"]
abbrev p_UnknownSaying___init : List Str := ["self", "at"]
theorem sc_UnknownSaying___init : FnScope n_UnknownSaying___init p_UnknownSaying___init (defScope s_UnknownSaying___init) := ⟨rfl, rfl, rfl, by decide +kernel, rfl, by decide +kernel, by decide +kernel⟩
abbrev s_law_bag : Stmt := topS 36
abbrev n_law_bag : List Str := ["_law_script", "_law_mixed", "_law_piece"]
abbrev p_law_bag : List Str := ["_law_script"]
theorem sc_law_bag : FnScope n_law_bag p_law_bag (defScope s_law_bag) := ⟨rfl, rfl, rfl, by decide +kernel, rfl, by decide +kernel, by decide +kernel⟩
abbrev s_law_draw : Stmt := topS 37
abbrev n_law_draw : List Str := ["_law_bag_here", "_law_sides", "_law_piece", "_law_digit", "_law_state"]
abbrev p_law_draw : List Str := ["_law_bag_here", "_law_sides"]
theorem sc_law_draw : FnScope n_law_draw p_law_draw (defScope s_law_draw) := ⟨rfl, rfl, rfl, by decide +kernel, rfl, by decide +kernel, by decide +kernel⟩
abbrev s_law_of : Stmt := topS 38
abbrev n_law_of : List Str := ["_law_bag_here", "_law_things"]
abbrev p_law_of : List Str := ["_law_bag_here", "_law_things"]
theorem sc_law_of : FnScope n_law_of p_law_of (defScope s_law_of) := ⟨rfl, rfl, rfl, by decide +kernel, rfl, by decide +kernel, by decide +kernel⟩
abbrev s_law_same : Stmt := topS 39
abbrev n_law_same : List Str := ["_law_found", "_law_due", "_law_mark", "_law_x", "_law_y"]
abbrev p_law_same : List Str := ["_law_found", "_law_due"]
theorem sc_law_same : FnScope n_law_same p_law_same (defScope s_law_same) := ⟨rfl, rfl, rfl, by decide +kernel, rfl, by decide +kernel, by decide +kernel⟩
abbrev s_law_first_kinds : Stmt := topS 40
abbrev n_law_first_kinds : List Str := ["_law_e", "_law_found"]
abbrev p_law_first_kinds : List Str := ["_law_e"]
theorem sc_law_first_kinds : FnScope n_law_first_kinds p_law_first_kinds (defScope s_law_first_kinds) := ⟨rfl, rfl, rfl, by decide +kernel, rfl, by decide +kernel, by decide +kernel⟩
abbrev s_law_last_kinds : Stmt := topS 41
abbrev n_law_last_kinds : List Str := ["_law_e", "_law_found"]
abbrev p_law_last_kinds : List Str := ["_law_e"]
theorem sc_law_last_kinds : FnScope n_law_last_kinds p_law_last_kinds (defScope s_law_last_kinds) := ⟨rfl, rfl, rfl, by decide +kernel, rfl, by decide +kernel, by decide +kernel⟩
abbrev s_law_by_place : Stmt := topS 42
abbrev n_law_by_place : List Str := ["_law_a", "_law_b", "_law_found"]
abbrev p_law_by_place : List Str := ["_law_a", "_law_b"]
theorem sc_law_by_place : FnScope n_law_by_place p_law_by_place (defScope s_law_by_place) := ⟨rfl, rfl, rfl, by decide +kernel, rfl, by decide +kernel, by decide +kernel⟩
abbrev s_law_by_name : Stmt := topS 43
abbrev n_law_by_name : List Str := ["_law_a", "_law_b", "_law_found"]
abbrev p_law_by_name : List Str := ["_law_a", "_law_b"]
theorem sc_law_by_name : FnScope n_law_by_name p_law_by_name (defScope s_law_by_name) := ⟨rfl, rfl, rfl, by decide +kernel, rfl, by decide +kernel, by decide +kernel⟩
abbrev s_law_fields : Stmt := topS 44
abbrev n_law_fields : List Str := ["_law_k", "_law_e"]
abbrev p_law_fields : List Str := ["_law_k", "_law_e"]
theorem sc_law_fields : FnScope n_law_fields p_law_fields (defScope s_law_fields) := ⟨rfl, rfl, rfl, by decide +kernel, rfl, by decide +kernel, by decide +kernel⟩
abbrev s_law_fields_due : Stmt := topS 45
abbrev n_law_fields_due : List Str := ["_law_k", "_law_a", "_law_b"]
abbrev p_law_fields_due : List Str := ["_law_k", "_law_a", "_law_b"]
theorem sc_law_fields_due : FnScope n_law_fields_due p_law_fields_due (defScope s_law_fields_due) := ⟨rfl, rfl, rfl, by decide +kernel, rfl, by decide +kernel, by decide +kernel⟩
abbrev s_law_raise : Stmt := topS 46
abbrev n_law_raise : List Str := ["_law_k", "_law_a", "_law_b"]
abbrev p_law_raise : List Str := ["_law_k", "_law_a", "_law_b"]
theorem sc_law_raise : FnScope n_law_raise p_law_raise (defScope s_law_raise) := ⟨rfl, rfl, rfl, by decide +kernel, rfl, by decide +kernel, by decide +kernel⟩
abbrev s_law_caught : Stmt := topS 47
abbrev n_law_caught : List Str := ["_law_k", "_law_a", "_law_b", "_law_spot", "_law_e", "f", "g"]
abbrev p_law_caught : List Str := ["_law_k", "_law_a", "_law_b"]
theorem sc_law_caught : FnScope n_law_caught p_law_caught (defScope s_law_caught) := ⟨rfl, rfl, rfl, by decide +kernel, rfl, by decide +kernel, by decide +kernel⟩
abbrev s_law_caught_itself : Stmt := topS 48
abbrev n_law_caught_itself : List Str := ["_law_k", "_law_a", "_law_b", "_law_e"]
abbrev p_law_caught_itself : List Str := ["_law_k", "_law_a", "_law_b"]
theorem sc_law_caught_itself : FnScope n_law_caught_itself p_law_caught_itself (defScope s_law_caught_itself) := ⟨rfl, rfl, rfl, by decide +kernel, rfl, by decide +kernel, by decide +kernel⟩
abbrev s_law_thing : Stmt := topS 49
abbrev n_law_thing : List Str := ["_law_bag_here"]
abbrev p_law_thing : List Str := ["_law_bag_here"]
theorem sc_law_thing : FnScope n_law_thing p_law_thing (defScope s_law_thing) := ⟨rfl, rfl, rfl, by decide +kernel, rfl, by decide +kernel, by decide +kernel⟩
abbrev s_law_made_so : Stmt := topS 50
abbrev n_law_made_so : List Str := ["_law_made", "_law_a", "_law_b", "_law_k", "_law_e", "_law_bases", "_law_head", "_law_last", "_law_j"]
abbrev p_law_made_so : List Str := ["_law_made", "_law_a", "_law_b"]
theorem sc_law_made_so : FnScope n_law_made_so p_law_made_so (defScope s_law_made_so) := ⟨rfl, rfl, rfl, by decide +kernel, rfl, by decide +kernel, by decide +kernel⟩
abbrev s_law : Stmt := topS 51
abbrev n_law : List Str := ["_law_script", "_law_bag_here", "_law_a", "_law_b", "_law_x", "_law_y", "_law_placed", "_law_named", "_law_turn", "_law_k", "_law_spot", "_law_base"]
abbrev p_law : List Str := ["_law_script"]
theorem sc_law : FnScope n_law p_law (defScope s_law) := ⟨rfl, rfl, rfl, by decide +kernel, rfl, by decide +kernel, by decide +kernel⟩
structure Adr where
  no : Nat
  PooledError : Addr
  Missing : Addr
  InvalidName : Addr
  InvalidNumber : Addr
  InvalidText : Addr
  InvalidCircle : Addr
  InvalidTie : Addr
  InvalidParting : Addr
  InvalidCase : Addr
  InvalidGrant : Addr
  InvalidBan : Addr
  InvalidShare : Addr
  InvalidSaying : Addr
  InvalidLog : Addr
  InvalidLot : Addr
  InvalidEyes : Addr
  InvalidDeed : Addr
  InvalidQuestion : Addr
  TooMany : Addr
  NotAlike : Addr
  CommonShown : Addr
  NotPooled : Addr
  UnlikeSketches : Addr
  NotSafe : Addr
  CannotStand : Addr
  NameTaken : Addr
  InUse : Addr
  UnknownName : Addr
  UnknownEye : Addr
  UnknownGrant : Addr
  UnknownBan : Addr
  UnknownShare : Addr
  UnknownSaying : Addr
  NothingLeft : Addr
def errsA (A : Adr) : List Addr := [A.InvalidName, A.InvalidNumber, A.InvalidText, A.InvalidCircle, A.InvalidTie, A.InvalidParting, A.InvalidCase, A.InvalidGrant, A.InvalidBan, A.InvalidShare, A.InvalidSaying, A.InvalidLog, A.InvalidLot, A.InvalidEyes, A.InvalidDeed, A.InvalidQuestion, A.TooMany, A.NotAlike, A.CommonShown, A.NotPooled, A.UnlikeSketches, A.NotSafe, A.CannotStand, A.NameTaken, A.InUse, A.UnknownName, A.UnknownEye, A.UnknownGrant, A.UnknownBan, A.UnknownShare, A.UnknownSaying, A.NothingLeft]
def basesA (A : Adr) : List Value := [.ref A.PooledError, .type "ValueError", .ref A.Missing, .type "LookupError", .type "IndexError", .type "KeyError", .type "Exception"]
def dueB (i j : Nat) : Bool := match j with
  | 0 => decide (i < 25)
  | 1 => decide (i < 25)
  | 2 => decide (25 ≤ i ∧ i < 31)
  | 3 => decide (25 ≤ i)
  | 4 => decide (i = 31)
  | 5 => false
  | _ => true
def raisedA (A : Adr) : List Addr := [A.InvalidName, A.TooMany, A.InvalidEyes, A.NotAlike, A.InUse, A.UnknownEye, A.UnknownSaying, A.UnknownName, A.NothingLeft]
def handA (A : Adr) : List Addr := [A.PooledError, A.Missing, A.NothingLeft, A.InvalidName, A.TooMany, A.InvalidEyes, A.NotAlike, A.InUse, A.UnknownEye, A.UnknownSaying, A.UnknownName]
def dueX (i j : Nat) : Bool := match j with
  | 0 => decide (i < 5)
  | 1 => decide (5 ≤ i ∧ i < 8)
  | 2 => decide (i = 8)
  | j + 3 => decide (i = j)
def ktabB (K : PySem.W.Frag) (A : Adr) : Bool := (errsA A).zipIdx.all fun x => (errsA A).zipIdx.all fun y => decide (PySem.W.kitOne K (.ref x.1) (.ref y.1) = some (decide (x.2 = y.2)))
def kbasB (K : PySem.W.Frag) (A : Adr) : Bool := (errsA A).zipIdx.all fun x => (basesA A).zipIdx.all fun y => decide (PySem.W.kitOne K (.ref x.1) y.1 = some (dueB x.2 y.2))
def kexmB (K : PySem.W.Frag) (A : Adr) : Bool := (raisedA A).zipIdx.all fun x => (handA A).zipIdx.all fun y => decide (PySem.W.exmOne K (.ref x.1) (.ref y.1) = some (dueX x.2 y.2))
structure Txt (K : PySem.W.Frag) (mg : Str → Option Value) (A : Adr) : Prop where
  n_int : mg "int" = none
  n_list : mg "list" = none
  n_len : mg "len" = none
  n_abs : mg "abs" = none
  n_isinstance : mg "isinstance" = none
  n_tuple : mg "tuple" = none
  n_all : mg "all" = none
  n_zip : mg "zip" = none
  n_dict : mg "dict" = none
  n_bool : mg "bool" = none
  n_str : mg "str" = none
  n_range : mg "range" = none
  n_ValueError : mg "ValueError" = none
  n_LookupError : mg "LookupError" = none
  n_IndexError : mg "IndexError" = none
  n_KeyError : mg "KeyError" = none
  n_Exception : mg "Exception" = none
  m_PooledError : mg "PooledError" = some (.ref A.PooledError)
  m_Missing : mg "Missing" = some (.ref A.Missing)
  m_InvalidName : mg "InvalidName" = some (.ref A.InvalidName)
  m_InvalidNumber : mg "InvalidNumber" = some (.ref A.InvalidNumber)
  m_InvalidText : mg "InvalidText" = some (.ref A.InvalidText)
  m_InvalidCircle : mg "InvalidCircle" = some (.ref A.InvalidCircle)
  m_InvalidTie : mg "InvalidTie" = some (.ref A.InvalidTie)
  m_InvalidParting : mg "InvalidParting" = some (.ref A.InvalidParting)
  m_InvalidCase : mg "InvalidCase" = some (.ref A.InvalidCase)
  m_InvalidGrant : mg "InvalidGrant" = some (.ref A.InvalidGrant)
  m_InvalidBan : mg "InvalidBan" = some (.ref A.InvalidBan)
  m_InvalidShare : mg "InvalidShare" = some (.ref A.InvalidShare)
  m_InvalidSaying : mg "InvalidSaying" = some (.ref A.InvalidSaying)
  m_InvalidLog : mg "InvalidLog" = some (.ref A.InvalidLog)
  m_InvalidLot : mg "InvalidLot" = some (.ref A.InvalidLot)
  m_InvalidEyes : mg "InvalidEyes" = some (.ref A.InvalidEyes)
  m_InvalidDeed : mg "InvalidDeed" = some (.ref A.InvalidDeed)
  m_InvalidQuestion : mg "InvalidQuestion" = some (.ref A.InvalidQuestion)
  m_TooMany : mg "TooMany" = some (.ref A.TooMany)
  m_NotAlike : mg "NotAlike" = some (.ref A.NotAlike)
  m_CommonShown : mg "CommonShown" = some (.ref A.CommonShown)
  m_NotPooled : mg "NotPooled" = some (.ref A.NotPooled)
  m_UnlikeSketches : mg "UnlikeSketches" = some (.ref A.UnlikeSketches)
  m_NotSafe : mg "NotSafe" = some (.ref A.NotSafe)
  m_CannotStand : mg "CannotStand" = some (.ref A.CannotStand)
  m_NameTaken : mg "NameTaken" = some (.ref A.NameTaken)
  m_InUse : mg "InUse" = some (.ref A.InUse)
  m_UnknownName : mg "UnknownName" = some (.ref A.UnknownName)
  m_UnknownEye : mg "UnknownEye" = some (.ref A.UnknownEye)
  m_UnknownGrant : mg "UnknownGrant" = some (.ref A.UnknownGrant)
  m_UnknownBan : mg "UnknownBan" = some (.ref A.UnknownBan)
  m_UnknownShare : mg "UnknownShare" = some (.ref A.UnknownShare)
  m_UnknownSaying : mg "UnknownSaying" = some (.ref A.UnknownSaying)
  m_NothingLeft : mg "NothingLeft" = some (.ref A.NothingLeft)
  t_InvalidName : ErrT K A.InvalidName "InvalidName.__init__" s_InvalidName___init p_InvalidName___init tlV "ValueError.__new__"
  a_InvalidName_value : PySem.W.findIn K (.ref A.InvalidName) "value" = some none
  t_InvalidNumber : ErrT K A.InvalidNumber "InvalidNumber.__init__" s_InvalidNumber___init p_InvalidNumber___init tlV "ValueError.__new__"
  a_InvalidNumber_value : PySem.W.findIn K (.ref A.InvalidNumber) "value" = some none
  t_InvalidText : ErrT K A.InvalidText "InvalidText.__init__" s_InvalidText___init p_InvalidText___init tlV "ValueError.__new__"
  a_InvalidText_at : PySem.W.findIn K (.ref A.InvalidText) "at" = some none
  t_InvalidCircle : ErrT K A.InvalidCircle "InvalidCircle.__init__" s_InvalidCircle___init p_InvalidCircle___init tlV "ValueError.__new__"
  a_InvalidCircle_at : PySem.W.findIn K (.ref A.InvalidCircle) "at" = some none
  t_InvalidTie : ErrT K A.InvalidTie "InvalidTie.__init__" s_InvalidTie___init p_InvalidTie___init tlV "ValueError.__new__"
  a_InvalidTie_at : PySem.W.findIn K (.ref A.InvalidTie) "at" = some none
  t_InvalidParting : ErrT K A.InvalidParting "InvalidParting.__init__" s_InvalidParting___init p_InvalidParting___init tlV "ValueError.__new__"
  a_InvalidParting_value : PySem.W.findIn K (.ref A.InvalidParting) "value" = some none
  t_InvalidCase : ErrT K A.InvalidCase "InvalidCase.__init__" s_InvalidCase___init p_InvalidCase___init tlV "ValueError.__new__"
  a_InvalidCase_value : PySem.W.findIn K (.ref A.InvalidCase) "value" = some none
  t_InvalidGrant : ErrT K A.InvalidGrant "InvalidGrant.__init__" s_InvalidGrant___init p_InvalidGrant___init tlV "ValueError.__new__"
  a_InvalidGrant_at : PySem.W.findIn K (.ref A.InvalidGrant) "at" = some none
  t_InvalidBan : ErrT K A.InvalidBan "InvalidBan.__init__" s_InvalidBan___init p_InvalidBan___init tlV "ValueError.__new__"
  a_InvalidBan_at : PySem.W.findIn K (.ref A.InvalidBan) "at" = some none
  t_InvalidShare : ErrT K A.InvalidShare "InvalidShare.__init__" s_InvalidShare___init p_InvalidShare___init tlV "ValueError.__new__"
  a_InvalidShare_at : PySem.W.findIn K (.ref A.InvalidShare) "at" = some none
  t_InvalidSaying : ErrT K A.InvalidSaying "InvalidSaying.__init__" s_InvalidSaying___init p_InvalidSaying___init tlV "ValueError.__new__"
  a_InvalidSaying_at : PySem.W.findIn K (.ref A.InvalidSaying) "at" = some none
  t_InvalidLog : ErrT K A.InvalidLog "InvalidLog.__init__" s_InvalidLog___init p_InvalidLog___init tlV "ValueError.__new__"
  a_InvalidLog_at : PySem.W.findIn K (.ref A.InvalidLog) "at" = some none
  t_InvalidLot : ErrT K A.InvalidLot "InvalidLot.__init__" s_InvalidLot___init p_InvalidLot___init tlV "ValueError.__new__"
  a_InvalidLot_at : PySem.W.findIn K (.ref A.InvalidLot) "at" = some none
  z_InvalidEyes : ErrN K A.InvalidEyes tlV "ValueError.__new__"
  t_InvalidDeed : ErrT K A.InvalidDeed "InvalidDeed.__init__" s_InvalidDeed___init p_InvalidDeed___init tlV "ValueError.__new__"
  a_InvalidDeed_at : PySem.W.findIn K (.ref A.InvalidDeed) "at" = some none
  z_InvalidQuestion : ErrN K A.InvalidQuestion tlV "ValueError.__new__"
  t_TooMany : ErrT K A.TooMany "TooMany.__init__" s_TooMany___init p_TooMany___init tlV "ValueError.__new__"
  a_TooMany_what : PySem.W.findIn K (.ref A.TooMany) "what" = some none
  a_TooMany_most : PySem.W.findIn K (.ref A.TooMany) "most" = some none
  t_NotAlike : ErrT K A.NotAlike "NotAlike.__init__" s_NotAlike___init p_NotAlike___init tlV "ValueError.__new__"
  a_NotAlike_one : PySem.W.findIn K (.ref A.NotAlike) "one" = some none
  a_NotAlike_other : PySem.W.findIn K (.ref A.NotAlike) "other" = some none
  t_CommonShown : ErrT K A.CommonShown "CommonShown.__init__" s_CommonShown___init p_CommonShown___init tlV "ValueError.__new__"
  a_CommonShown_at : PySem.W.findIn K (.ref A.CommonShown) "at" = some none
  z_NotPooled : ErrN K A.NotPooled tlV "ValueError.__new__"
  z_UnlikeSketches : ErrN K A.UnlikeSketches tlV "ValueError.__new__"
  t_NotSafe : ErrT K A.NotSafe "NotSafe.__init__" s_NotSafe___init p_NotSafe___init tlV "ValueError.__new__"
  a_NotSafe_at : PySem.W.findIn K (.ref A.NotSafe) "at" = some none
  t_CannotStand : ErrT K A.CannotStand "CannotStand.__init__" s_CannotStand___init p_CannotStand___init tlV "ValueError.__new__"
  a_CannotStand_at : PySem.W.findIn K (.ref A.CannotStand) "at" = some none
  t_NameTaken : ErrT K A.NameTaken "NameTaken.__init__" s_NameTaken___init p_NameTaken___init tlV "ValueError.__new__"
  a_NameTaken_name : PySem.W.findIn K (.ref A.NameTaken) "name" = some none
  t_InUse : ErrT K A.InUse "InUse.__init__" s_InUse___init p_InUse___init tlV "ValueError.__new__"
  a_InUse_name : PySem.W.findIn K (.ref A.InUse) "name" = some none
  t_UnknownName : ErrT K A.UnknownName "UnknownName.__init__" s_UnknownName___init p_UnknownName___init tlL "LookupError.__new__"
  a_UnknownName_name : PySem.W.findIn K (.ref A.UnknownName) "name" = some none
  t_UnknownEye : ErrT K A.UnknownEye "UnknownEye.__init__" s_UnknownEye___init p_UnknownEye___init tlL "LookupError.__new__"
  a_UnknownEye_name : PySem.W.findIn K (.ref A.UnknownEye) "name" = some none
  t_UnknownGrant : ErrT K A.UnknownGrant "UnknownGrant.__init__" s_UnknownGrant___init p_UnknownGrant___init tlL "LookupError.__new__"
  a_UnknownGrant_at : PySem.W.findIn K (.ref A.UnknownGrant) "at" = some none
  t_UnknownBan : ErrT K A.UnknownBan "UnknownBan.__init__" s_UnknownBan___init p_UnknownBan___init tlL "LookupError.__new__"
  a_UnknownBan_at : PySem.W.findIn K (.ref A.UnknownBan) "at" = some none
  t_UnknownShare : ErrT K A.UnknownShare "UnknownShare.__init__" s_UnknownShare___init p_UnknownShare___init tlL "LookupError.__new__"
  a_UnknownShare_at : PySem.W.findIn K (.ref A.UnknownShare) "at" = some none
  t_UnknownSaying : ErrT K A.UnknownSaying "UnknownSaying.__init__" s_UnknownSaying___init p_UnknownSaying___init tlL "LookupError.__new__"
  a_UnknownSaying_at : PySem.W.findIn K (.ref A.UnknownSaying) "at" = some none
  z_NothingLeft : ErrN K A.NothingLeft tlI "IndexError.__new__"
  v_ktabB : ktabB K A = true
  v_kbasB : kbasB K A = true
  v_kexmB : kexmB K A = true
  e_TooMany : ErrAt K mg "TooMany" A.TooMany "TooMany.__init__" s_TooMany___init p_TooMany___init
  e_NotAlike : ErrAt K mg "NotAlike" A.NotAlike "NotAlike.__init__" s_NotAlike___init p_NotAlike___init
  f_law_bag : FnAt K mg "_law_bag" s_law_bag p_law_bag
  f_law_draw : FnAt K mg "_law_draw" s_law_draw p_law_draw
  f_law_of : FnAt K mg "_law_of" s_law_of p_law_of
  f_law_same : FnAt K mg "_law_same" s_law_same p_law_same
  f_law_first_kinds : FnAt K mg "_law_first_kinds" s_law_first_kinds p_law_first_kinds
  f_law_last_kinds : FnAt K mg "_law_last_kinds" s_law_last_kinds p_law_last_kinds
  f_law_by_place : FnAt K mg "_law_by_place" s_law_by_place p_law_by_place
  f_law_by_name : FnAt K mg "_law_by_name" s_law_by_name p_law_by_name
  f_law_fields : FnAt K mg "_law_fields" s_law_fields p_law_fields
  f_law_fields_due : FnAt K mg "_law_fields_due" s_law_fields_due p_law_fields_due
  f_law_raise : FnAt K mg "_law_raise" s_law_raise p_law_raise
  f_law_caught : FnAt K mg "_law_caught" s_law_caught p_law_caught
  f_law_caught_itself : FnAt K mg "_law_caught_itself" s_law_caught_itself p_law_caught_itself
  f_law_thing : FnAt K mg "_law_thing" s_law_thing p_law_thing
  f_law_made_so : FnAt K mg "_law_made_so" s_law_made_so p_law_made_so
  f_law : FnAt K mg "law" s_law p_law
def TT (A : Adr) : List (Addr × Str) := []
structure Tbs (K : PySem.W.Frag) (h : Heap) (A : Adr) : Prop where
end Eyes

set_option Elab.async false
set_option linter.all false
set_option maxRecDepth 100000
set_option maxHeartbeats 4000000
namespace Eyes
open PySem PySem.Spec PyProof.Rows L2 Evl
local macro_rules | `(tactic| walk_at "v") => `(tactic| refine ⟨_, rfl, ?_⟩)
local macro_rules | `(tactic| walk_at "rd") => `(tactic| first
  | refine ⟨_, rfl, ?_⟩
  | refine ⟨_, _, rfl, rfl, .inr ⟨by decide, by decide⟩, ?_⟩
  | refine ⟨_, _, rfl, rfl, .inl ⟨by decide, by decide⟩, ?_⟩
  | refine ⟨_, _, rfl, rfl, (show (0 : Int) < _ by decide), ?_⟩
  | refine ⟨_, _, rfl, rfl, (show (0 : Int) < _ ∧ _ < (1073741824 : Int) by decide), ?_⟩
  | refine ⟨_, _, rfl, rfl, ?_⟩
  | refine .inl ⟨_, rfl, ?_⟩)
/-! ### the bag of drawn numbers -/
structure BagS (b c : Addr) (ns : List Int) (i r m n : Int) (G H : Hp) : Prop where
  nb : G b = none
  nc : G c = none
  ex : Ex G H
  at_ : H b = some (.lst [.ref c, .int i, .int r, .int m, .int n])
  cells : H c = some (.lst (ns.map V.int))
  ne : c ≠ b
  i0 : 0 ≤ i
  r0 : 0 ≤ r
  m0 : 0 ≤ m
  m1 : m < 2147483648
theorem BagS.set {b c : Addr} {ns : List Int} {i r m n i' r' m' n' : Int} {G H : Hp} (B : BagS b c ns i r m n G H) (h1 : 0 ≤ i') (h2 : 0 ≤ r') (h3 : 0 ≤ m') (h4 : m' < 2147483648) :
    BagS b c ns i' r' m' n' G (upd H b (.lst [.ref c, .int i', .int r', .int m', .int n'])) :=
  ⟨B.nb, B.nc, B.ex.mut B.nb, upd_same, (upd_ne B.ne).trans B.cells, B.ne, h1, h2, h3, h4⟩
def At (b : Addr) (G H : Hp) : Prop := ∃ (c : Addr) (ns : List Int) (i r m n : Int), BagS b c ns i r m n G H
theorem At.nb {b : Addr} {G H : Hp} (h : At b G H) : G b = none := by
  obtain ⟨c, ns, i, r, m, n, B⟩ := h
  exact B.nb
theorem At.ex {b : Addr} {G H : Hp} (h : At b G H) : Ex G H := by
  obtain ⟨c, ns, i, r, m, n, B⟩ := h
  exact B.ex
theorem At.mono {b : Addr} {G H H' : Hp} (h : At b G H) (e : Ex H H') : At b G H' := by
  obtain ⟨c, ns, i, r, m, n, B⟩ := h
  exact ⟨c, ns, i, r, m, n, B.nb, B.nc, B.ex.trans e, e _ _ B.at_, e _ _ B.cells, B.ne, B.i0, B.r0, B.m0, B.m1⟩
theorem At.free {b : Addr} {G H : Hp} (h : At b G H) {p : Addr} (hp : H p = none) : p ≠ b := by
  obtain ⟨c, ns, i, r, m, n, B⟩ := h
  intro e
  rw [e, B.at_] at hp
  cases hp
theorem At.new {b : Addr} {G H : Hp} (h : At b G H) {p : Addr} {o : HO} (hp : H p = none) : At b (upd G p o) (upd H p o) := by
  have hf := h.free hp
  have hc : ∀ c ns i r m n, BagS b c ns i r m n G H → p ≠ c := fun c ns i r m n B e => by
    rw [e, B.cells] at hp
    cases hp
  obtain ⟨c, ns, i, r, m, n, B0⟩ := h
  have B : BagS b c ns i r m n G (upd H p o) := ⟨B0.nb, B0.nc, B0.ex.trans (Ex.new hp), Ex.new hp _ _ B0.at_, Ex.new hp _ _ B0.cells, B0.ne, B0.i0, B0.r0, B0.m0, B0.m1⟩
  refine ⟨c, ns, i, r, m, n, (upd_ne hf.symm).trans B.nb, (upd_ne (hc _ _ _ _ _ _ B0).symm).trans B.nc, fun a u e => ?_, B.at_, B.cells, B.ne, B.i0, B.r0, B.m0, B.m1⟩
  by_cases ha : a = p
  · subst ha
    rw [upd_same] at e ⊢
    exact e
  · rw [upd_ne ha] at e
    exact B.ex a u e
theorem At.nh {b : Addr} {G H : Hp} (h : At b G H) {p : Addr} (hp : H p = none) : G p = none := fresh_back h.ex hp
theorem cut_to (xs : List V) (k : Nat) : cutV xs none (some (k : Int)) = xs.take k := by
  unfold cutV
  rw [HT.sIx_none, HT.sIx_nat, List.drop_zero, Nat.sub_zero]
  rcases Nat.le_total k xs.length with h | h
  · rw [Nat.min_eq_left h]
  · rw [Nat.min_eq_right h, List.take_of_length_le h, List.take_of_length_le (Nat.le_refl _)]
theorem at_of' {α : Type} {xs : List α} {z : Int} {v : α} (e : 0 ≤ z) (h : xs[z.toNat]? = some v) : atI xs z = some v := by
  have e2 : z = (z.toNat : Int) := by omega
  rw [e2]
  exact atI_nat h
def spBag (K : PySem.W.Frag) : Sp := fun vs H Q _ => ∃ (a : Addr) (ns : List Int), vs = [.ref a] ∧ SqL K H a (ns.map V.int) ∧ ∀ b H', H b = none → At b H H' → Q (.ref b) H'
def spDraw : Sp := fun vs H Q _ => ∃ (b : Addr) (z : Int) (G : Hp), vs = [.ref b, .int z] ∧ At b G H ∧ 0 < z ∧ z < 1073741824 ∧ ∀ d H', 0 ≤ d → d < z → At b G H' → Q (.int d) H'
section
variable {P : Program} {w : World} {K : PySem.W.Frag} {mg : Str → Option Value} {base : Heap}
theorem ok_law_bag {AA : Adr} (T : Txt K mg AA) : Pr P w K mg base "_law_bag" s_law_bag p_law_bag 1 (spBag K) := by
  refine pr_mk T.f_law_bag sc_law_bag (fun vs H Q E h => ?_) (fun f cdv A outer s H vs Q E hr h => ?_)
  · obtain ⟨a, ns, rfl, _⟩ := h
    rfl
  · obtain ⟨a, ns, rfl, hS, q⟩ := h
    refine ⟨_, (pss_cons (ps_set (i := 1) sc_law_bag.nd rfl (.inl rfl) pe_int)
      (pss_cons (ps_for PassesOwn.never rfl (pi_list (pe_slice sl_list (pv 0) po_none (po_some pe_int))) (pg_name (i := 2) sc_law_bag.nd rfl (.inl rfl))
      (pss_one (ps_set (i := 1) sc_law_bag.nd rfl (.inl rfl) (pe_op op_mod (pe_callTy call_int1 (by rfl) T.n_int PyProof.Rows.boot_int (pa_cons (pe_op op_add (pe_op op_add (pe_op op_mul (pv 1) pe_int) (pe_op op_mul (pe_op op_mod (pe_callTy call_int1 (by rfl) T.n_int PyProof.Rows.boot_int (pa_cons (pv 2) pa_nil)) pe_int) pe_int)) pe_int) pa_nil)) pe_int))))
      (pss_one (ps_ret (pe_lst (pa_cons (pe_callTy call_list_of (by rfl) T.n_list PyProof.Rows.boot_list (pa_cons (pe_slice sl_list (pv 0) po_none (po_some pe_int)) pa_nil)) (pa_cons pe_int (pa_cons pe_int (pa_cons (pv 1) (pa_cons pe_int pa_nil)))))))))), ?_⟩
    -- mixed = 43001
    -- for piece in script[:63]
    refine ⟨_, rfl, 63, rfl, a, _, rfl, hS, fun p np => ?_⟩
    have hc : cutV (ns.map V.int) none (some 63) = (ns.take 63).map V.int := (cut_to _ 63).trans List.map_take.symm
    rw [hc]
    have e1 : Ex H (upd H p (.lst ((ns.take 63).map V.int))) := Ex.new np
    refine ⟨p, rfl, ⟨_, sq_of upd_same⟩, for_list (xs := (ns.take 63).map V.int) (fun _ σ H' => ∃ (m : Int) (y : Option V), σ = [some (.ref a), some (.int m), y] ∧ 0 ≤ m ∧ m < 2147483587 ∧ Ex (upd H p (.lst ((ns.take 63).map V.int))) H') ⟨43001, none, rfl, by omega, by omega, Ex.refl _⟩ (fun i σ H' _ hp => ?_) (fun i x σ H' hx hp => ?_) (fun σ H' hp => ?_)⟩
    · obtain ⟨m, y, rfl, _, _, e2⟩ := hp
      exact sq_of (e2 _ _ upd_same)
    · obtain ⟨m, y, rfl, h0, h1, e2⟩ := hp
      rw [List.getElem?_map] at hx
      obtain ⟨k, hk, rfl⟩ := Option.map_eq_some_iff.mp hx
      -- the sum
      repeat walk_at "rd"
      exact ⟨_, _, rfl, Int.emod_nonneg _ (by decide), Int.emod_lt_of_pos _ (by decide), e2⟩
    · obtain ⟨m, y, rfl, h0, h1, e2⟩ := hp
      -- return [list(script[:63]), 0, 0, mixed, 0]
      have hS1 : SqL K H' a (ns.map V.int) := ex_l (e1.trans e2) hS
      refine ⟨_, rfl, 63, rfl, a, _, rfl, hS1, fun p2 np2 => ?_⟩
      rw [hc]
      refine ⟨p2, _, rfl, .inl (sq_of upd_same), fun p3 np3 => ?_⟩
      refine ⟨_, rfl, by show 5 ≤ sizeLine; decide, fun b nb => ?_⟩
      have ex : Ex H _ := (((e1.trans e2).trans (Ex.new np2)).trans (Ex.new np3)).trans (Ex.new (o := HO.lst [.ref p3, .int 0, .int 0, .int m, .int 0]) nb)
      refine q b _ (fresh_back (((e1.trans e2).trans (Ex.new np2)).trans (Ex.new np3)) nb) ⟨p3, ns.take 63, 0, 0, m, 0, fresh_back (((e1.trans e2).trans (Ex.new np2)).trans (Ex.new np3)) nb, fresh_back ((e1.trans e2).trans (Ex.new np2)) np3, ex, upd_same, ?_, ?_, by omega, by omega, by omega, by omega⟩
      · have hb : p3 ≠ b := ne_of_none upd_same nb
        rw [upd_ne hb, upd_same]
      · exact ne_of_none upd_same nb
theorem ok_law_draw {AA : Adr} (T : Txt K mg AA) : Pr P w K mg base "_law_draw" s_law_draw p_law_draw 1 spDraw := by
  refine pr_mk T.f_law_draw sc_law_draw (fun vs H Q E h => ?_) (fun f cdv A outer s H vs Q E hr h => ?_)
  · obtain ⟨b, z, G, rfl, _⟩ := h
    rfl
  · obtain ⟨b, z, G, rfl, ⟨c, ns, i, r, m, n, B⟩, hz0, hz1, q⟩ := h
    refine ⟨_, (pss_cons (ps_asg (pe_op op_add (pe_ix (ix_listK (K := K) rfl) (pv 0) pe_int (fun _ _ => rfl)) pe_int) (pg_sub (pv 0) pe_int set_list))
      (Evl.pss_cut (ps_if (PW.pt (pw_and (pt_cmpR op_eq (pe_ix (ix_listK (K := K) rfl) (pv 0) pe_int (fun _ _ => rfl)) pe_int (nomark _)) (pw_and1 (pt_cmpR op_lt (pe_ix (ix_listK (K := K) rfl) (pv 0) pe_int (fun _ _ => rfl)) (pe_callB (call_len_seqK (K := K) rfl) (by rfl) T.n_len PySem.boot_len (pa_cons (pe_ix (ix_listK (K := K) rfl) (pv 0) pe_int (fun _ _ => rfl)) pa_nil)) (nomark _)))))
      (pss_cons (ps_set (i := 2) sc_law_draw.nd rfl (.inl rfl) (pe_callB call_abs (by rfl) T.n_abs PyProof.Rows.boot_abs (pa_cons (pe_callTy call_int1 (by rfl) T.n_int PyProof.Rows.boot_int (pa_cons (pe_ix (ix_listK (K := K) rfl) (pe_ix (ix_listK (K := K) rfl) (pv 0) pe_int (fun _ _ => rfl)) (pe_ix (ix_listK (K := K) rfl) (pv 0) pe_int (fun _ _ => rfl)) (fun _ _ => rfl)) pa_nil)) pa_nil)))
      (pss_cons (ps_asg (pe_op op_add (pe_ix (ix_listK (K := K) rfl) (pv 0) pe_int (fun _ _ => rfl)) pe_int) (pg_sub (pv 0) pe_int set_list))
      (pss_one (ps_if (pt_cmpR op_ge (pv 2) (pe_op op_pow pe_int pe_int) (nomark _))
      (pss_one (ps_asg (pv 2) (pg_sub (pv 0) pe_int set_list)))
      (pss_one (ps_asg (pe_op op_mod (pe_callTy call_int1 (by rfl) T.n_int PyProof.Rows.boot_int (pa_cons (pe_op op_add (pe_op op_add (pe_op op_mul (pe_ix (ix_listK (K := K) rfl) (pv 0) pe_int (fun _ _ => rfl)) pe_int) (pe_op op_mul (pe_op op_mod (pv 2) pe_int) pe_int)) pe_int) pa_nil)) pe_int) (pg_sub (pv 0) pe_int set_list)))))))
      pss_nil)
      (pss_cons (ps_if (pt_cmpR op_gt (pe_ix (ix_listK (K := K) rfl) (pv 0) pe_int (fun _ _ => rfl)) pe_int (nomark _))
      (pss_cons (ps_set (i := 3) sc_law_draw.nd rfl (.inl rfl) (pe_op op_mod (pe_callTy call_int1 (by rfl) T.n_int PyProof.Rows.boot_int (pa_cons (pe_ix (ix_listK (K := K) rfl) (pv 0) pe_int (fun _ _ => rfl)) pa_nil)) (pv 1)))
      (pss_cons (ps_asg (pe_op op_fdiv (pe_ix (ix_listK (K := K) rfl) (pv 0) pe_int (fun _ _ => rfl)) (pv 1)) (pg_sub (pv 0) pe_int set_list))
      (pss_one (ps_ret (pv 3)))))
      pss_nil)
      (pss_cons (ps_set (i := 4) sc_law_draw.nd rfl (.inl rfl) (pe_callTy call_int1 (by rfl) T.n_int PyProof.Rows.boot_int (pa_cons (pe_ix (ix_listK (K := K) rfl) (pv 0) pe_int (fun _ _ => rfl)) pa_nil)))
      (pss_cons (ps_asg (pe_op op_mod (pe_callTy call_int1 (by rfl) T.n_int PyProof.Rows.boot_int (pa_cons (pe_op op_add (pe_op op_add (pe_op op_add (pe_op op_mul (pe_op op_mul (pv 4) (pv 4)) pe_int) (pe_op op_mul (pv 4) pe_int)) (pe_op op_mul (pe_ix (ix_listK (K := K) rfl) (pv 0) pe_int (fun _ _ => rfl)) pe_int)) pe_int) pa_nil)) pe_int) (pg_sub (pv 0) pe_int set_list))
      (pss_one (ps_ret (pe_op op_mod (pe_callTy call_int1 (by rfl) T.n_int PyProof.Rows.boot_int (pa_cons (pe_op op_add (pe_op op_fdiv (pe_ix (ix_listK (K := K) rfl) (pv 0) pe_int (fun _ _ => rfl)) pe_int) (pe_op op_mul (pe_op op_mod (pe_callTy call_int1 (by rfl) T.n_int PyProof.Rows.boot_int (pa_cons (pe_ix (ix_listK (K := K) rfl) (pv 0) pe_int (fun _ _ => rfl)) pa_nil)) pe_int) pe_int)) pa_nil)) (pv 1))))))))), ?_⟩
    -- bag[4] = bag[4] + 1
    refine ⟨_, rfl, b, _, 4, _, rfl, rfl, sq_of B.at_, rfl, n, 1, rfl, rfl, _, rfl, b, _, 4, 4, rfl, rfl, B.at_, rfl, ?_⟩
    have B1 := B.set (n' := n + 1) B.i0 B.r0 B.m0 B.m1
    generalize hH1 : upd H b _ = H1
    rw [show ([V.ref c, .int i, .int r, .int m, .int n].set 4 (.int (n + 1))) = [V.ref c, .int i, .int r, .int m, .int (n + 1)] from rfl] at hH1
    rw [hH1] at B1
    clear hH1 B
    generalize n + 1 = n at B1
    -- the first if: Mid
    refine ⟨fun σ H' => ∃ (y2 y3 y4 : Option V), σ = [some (.ref b), some (.int z), y2, y3, y4] ∧ At b G H', ?_, fun σ H' hM => ?_⟩
    · refine ⟨_, rfl, b, _, 2, _, rfl, rfl, sq_of B1.at_, rfl, rfl, _, rfl, ite2 (fun hr0 => ?_) (fun hr0 => ?_)⟩
      · refine ⟨_, rfl, b, _, 1, _, rfl, rfl, sq_of B1.at_, rfl, _, rfl, b, _, 0, _, rfl, rfl, sq_of B1.at_, rfl, c, _, rfl, .inl (sq_of B1.cells), i, _, rfl, rfl, _, rfl, ite2 (fun hi => ?_) (fun hi => ?_)⟩
        · have hi : i < ((ns.map V.int).length : Int) := of_decide_eq_true hi
          have hi2 : i.toNat < ns.length := by
            rw [List.length_map] at hi
            have := B1.i0
            omega
          have g : (ns.map V.int)[i.toNat]? = some (.int ns[i.toNat]) := by
            rw [List.getElem?_map, List.getElem?_eq_getElem hi2]
            rfl
          have g2 : atI (ns.map V.int) i = some (.int ns[i.toNat]) := at_of (j := i.toNat) (by have := B1.i0; omega) g
          generalize ns[i.toNat] = x at g2
          -- piece = abs(int(bag[0][bag[1]]))
          refine ⟨_, rfl, b, _, 0, _, rfl, rfl, sq_of B1.at_, rfl, _, rfl, b, _, 1, _, rfl, rfl, sq_of B1.at_, rfl, c, _, i, _, rfl, rfl, sq_of B1.cells, g2, .inl ⟨x, rfl, x, rfl, ?_⟩⟩
          generalize hy : (if x < 0 then -x else x) = y
          have hy0 : 0 ≤ y := by
            rw [← hy]
            split <;> omega
          -- bag[1] = bag[1] + 1
          refine ⟨_, rfl, b, _, 1, _, rfl, rfl, sq_of B1.at_, rfl, i, 1, rfl, rfl, _, rfl, b, _, 1, 1, rfl, rfl, B1.at_, rfl, ?_⟩
          have B2 := B1.set (i' := i + 1) (n' := n) (by have := B1.i0; omega) B1.r0 B1.m0 B1.m1
          -- if piece >= 10 ** 18
          refine ⟨_, rfl, 10, 18, rfl, rfl, ⟨by decide, by decide, by decide⟩, _, _, rfl, rfl, _, rfl, ite2 (fun hp => ?_) (fun hp => ?_)⟩
          · refine ⟨_, rfl, _, rfl, b, _, 2, 2, rfl, rfl, B2.at_, rfl, _, _, _, rfl, _, _, _, _, _, _, B2.set (r' := y) (n' := n) B2.i0 hy0 B2.m0 B2.m1⟩
          · refine ⟨_, rfl, b, _, 3, _, rfl, rfl, sq_of B2.at_, rfl, m, 40014, rfl, rfl, .inr ⟨by decide, by decide⟩, _, rfl, ?_⟩
            repeat walk_at "rd"
            refine ⟨b, _, 3, 3, rfl, rfl, B2.at_, rfl, _, _, _, rfl, _, _, _, _, _, _, B2.set (n' := n) (m' := (m * 40014 + y % 999979 * 613 + 29) % 2147483579) B2.i0 B2.r0 (Int.emod_nonneg _ (by decide)) (Int.lt_trans (Int.emod_lt_of_pos _ (by decide)) (by decide))⟩
        · exact ⟨_, _, _, rfl, c, ns, i, r, m, n, B1⟩
      · exact ⟨_, _, _, rfl, c, ns, i, r, m, n, B1⟩
    · obtain ⟨y2, y3, y4, rfl, c, ns, i, r, m, n, B⟩ := hM
      -- if bag[2] > 0
      refine ⟨_, rfl, b, _, 2, _, rfl, rfl, sq_of B.at_, rfl, r, 0, rfl, rfl, _, rfl, ite2 (fun hr1 => ?_) (fun hr1 => ?_)⟩
      · have hr1 : 0 < r := of_decide_eq_true hr1
        refine ⟨_, rfl, b, _, 2, _, rfl, rfl, sq_of B.at_, rfl, .inl ⟨r, rfl, _, rfl, r, z, rfl, rfl, hz0, ?_⟩⟩
        refine ⟨_, rfl, b, _, 2, _, rfl, rfl, sq_of B.at_, rfl, _, rfl, r, z, rfl, rfl, ⟨hz0, hz1⟩, _, rfl, b, _, 2, 2, rfl, rfl, B.at_, rfl, _, rfl, ?_⟩
        exact q _ _ (Int.emod_nonneg _ (by omega)) (Int.emod_lt_of_pos _ hz0) ⟨_, _, _, _, _, _, B.set (r' := r / z) (n' := n) B.i0 (Int.ediv_nonneg B.r0 (by omega)) B.m0 B.m1⟩
      · refine ⟨_, rfl, b, _, 3, _, rfl, rfl, sq_of B.at_, rfl, .inl ⟨m, rfl, ?_⟩⟩
        have hm : -(2 ^ 64) < m ∧ m < 2 ^ 64 := ⟨Int.lt_of_lt_of_le (by decide) B.m0, Int.lt_trans B.m1 (by decide)⟩
        refine ⟨_, rfl, _, rfl, m, m, rfl, rfl, .inl hm, _, _, rfl, rfl, .inr ⟨by decide, by decide⟩, _, rfl, _, _, rfl, rfl, .inr ⟨by decide, by decide⟩, _, _, rfl, rfl, _, rfl, b, _, 4, _, rfl, rfl, sq_of B.at_, rfl, _, _, rfl, rfl, .inr ⟨by decide, by decide⟩, _, _, rfl, rfl, _, _, rfl, rfl, .inl ⟨_, rfl, _, _, rfl, rfl, (show (0 : Int) < _ by decide), _, rfl, b, _, 3, 3, rfl, rfl, B.at_, rfl, ?_⟩⟩
        have B2 := B.set (n' := n) (m' := (m * m * 31 + m * 52774 + n * 130363 + 70001) % 2147483629) B.i0 B.r0 (Int.emod_nonneg _ (by decide)) (Int.lt_trans (Int.emod_lt_of_pos _ (by decide)) (by decide))
        refine ⟨_, rfl, b, _, 3, _, rfl, rfl, sq_of B2.at_, rfl, _, 71, rfl, rfl, ⟨by decide, by decide⟩, _, rfl, b, _, 3, _, rfl, rfl, sq_of B2.at_, rfl, .inl ⟨_, rfl, _, 9001, rfl, rfl, (show (0 : Int) < _ by decide), _, _, rfl, rfl, .inr ⟨by decide, by decide⟩, _, _, rfl, rfl, .inl ⟨_, rfl, _, rfl, _, _, rfl, rfl, hz0, ?_⟩⟩⟩
        exact q _ _ (Int.emod_nonneg _ (by omega)) (Int.emod_lt_of_pos _ hz0) ⟨_, _, _, _, _, _, B2⟩
def SeqV (K : PySem.W.Frag) (H : Hp) (x : V) (items : List V) : Prop :=
  (∃ p, x = .ref p ∧ SqL K H p items) ∨ (∃ p, x = .ref p ∧ SqT K H p items) ∨ ∃ z : Str, x = .str z ∧ z.length ≤ sizeLine ∧ items = z.cps.toList.map fun c => V.str ⟨#[c]⟩
theorem SeqV.mono {H H' : Hp} {x : V} {items : List V} (h : SeqV K H x items) (e : Ex H H') : SeqV K H' x items := by
  rcases h with ⟨p, hx, h⟩ | ⟨p, hx, h⟩ | h
  · exact .inl ⟨p, hx, ex_l e h⟩
  · exact .inr (.inl ⟨p, hx, ex_t e h⟩)
  · exact .inr (.inr h)
theorem SeqV.len {H : Hp} {x : V} {items : List V} (h : SeqV K H x items) : LenV K x H items.length := by
  rcases h with ⟨p, rfl, h⟩ | ⟨p, rfl, h⟩ | ⟨z, rfl, hz, e⟩
  · exact .inl ⟨_, h, rfl⟩
  · exact .inr ⟨_, h, rfl⟩
  · refine ⟨hz, ?_⟩
    rw [e, List.length_map, Array.length_toList]
    rfl
theorem SeqV.item {H : Hp} {x : V} {items : List V} {d : Int} {v : V} {Q : VK} (h : SeqV K H x items) (hd : 0 ≤ d) (hv : items[d.toNat]? = some v) (q : Q v H) : rIx K x (.int d) H Q := by
  rcases h with ⟨p, rfl, h⟩ | ⟨p, rfl, h⟩ | ⟨z, rfl, hz, e⟩
  · exact .inl ⟨p, _, d, v, rfl, rfl, h, at_of (j := d.toNat) (by omega) hv, q⟩
  · exact .inr (.inl ⟨p, _, d, v, rfl, rfl, h, at_of (j := d.toNat) (by omega) hv, q⟩)
  · subst e
    rw [List.getElem?_map] at hv
    obtain ⟨c, hc, rfl⟩ := Option.map_eq_some_iff.mp hv
    exact .inr (.inr ⟨z, d, c, rfl, rfl, hz, at_of' (by omega) hc, q⟩)
def spOf (K : PySem.W.Frag) : Sp := fun vs H Q _ => ∃ (b : Addr) (x : V) (G : Hp) (items : List V), vs = [.ref b, x] ∧ At b G H ∧ SeqV K G x items ∧ 0 < items.length ∧ items.length < 1073741824 ∧ ∀ v H', v ∈ items → At b G H' → Q v H'
theorem ok_law_of {AA : Adr} (T : Txt K mg AA) : Pr P w K mg base "_law_of" s_law_of p_law_of 2 (spOf K) := by
  refine pr_mk T.f_law_of sc_law_of (fun vs H Q E h => ?_) (fun f cdv A outer s H vs Q E hr h => ?_)
  · obtain ⟨b, x, G, items, rfl, _⟩ := h
    rfl
  · obtain ⟨b, x, G, items, rfl, hA, hx, h0, h1, q⟩ := h
    refine ⟨_, (pss_one (ps_ret (pe_ix (ix_seqK (K := K) rfl) (pv 1) (pcall (ok_law_draw T) hr (pa_cons (pv 0) (pa_cons (pe_callB call_len (by rfl) T.n_len PySem.boot_len (pa_cons (pv 1) pa_nil)) pa_nil))) (fun _ _ => rfl)))), ?_⟩
    refine ⟨_, rfl, _, rfl, _, rfl, x, _, rfl, (hx.mono hA.ex).len, b, _, G, rfl, hA, by omega, by omega, fun d H' d0 d1 hA' => ?_⟩
    have hd : d.toNat < items.length := by omega
    exact (hx.mono hA'.ex).item d0 (List.getElem?_eq_getElem hd) (q _ _ (List.getElem_mem hd) hA')
end
end Eyes

set_option Elab.async false
set_option linter.all false
set_option maxRecDepth 100000
set_option maxHeartbeats 4000000
namespace Eyes
open PySem PySem.Spec PyProof.Rows L2 Evl
/-! ### data in the heap -/
mutual
inductive Rep (H : Hp) : V → PyData → Prop
  | non : Rep H .non .none
  | bl (b : Bool) : Rep H (.bl b) (.bool b)
  | int (i : Int) : Rep H (.int i) (.int i)
  | str (x : Str) : Rep H (.str x) (.str x)
  | lst {a : Addr} {xs : List V} {ds : List PyData} : H a = some (.lst xs) → Reps H xs ds → Rep H (.ref a) (.list ds)
  | tup {a : Addr} {xs : List V} {ds : List PyData} : H a = some (.tup xs) → Reps H xs ds → Rep H (.ref a) (.tuple ds)
inductive Reps (H : Hp) : List V → List PyData → Prop
  | nil : Reps H [] []
  | cons {v : V} {vs : List V} {d : PyData} {ds : List PyData} : Rep H v d → Reps H vs ds → Reps H (v :: vs) (d :: ds)
end
mutual
theorem Rep.mono {H H' : Hp} (e : Ex H H') : ∀ {v : V} {d : PyData}, Rep H v d → Rep H' v d
  | _, _, .non => .non
  | _, _, .bl b => .bl b
  | _, _, .int i => .int i
  | _, _, .str x => .str x
  | _, _, .lst h r => .lst (e _ _ h) (Reps.mono e r)
  | _, _, .tup h r => .tup (e _ _ h) (Reps.mono e r)
theorem Reps.mono {H H' : Hp} (e : Ex H H') : ∀ {v : List V} {d : List PyData}, Reps H v d → Reps H' v d
  | _, _, .nil => .nil
  | _, _, .cons h r => .cons (Rep.mono e h) (Reps.mono e r)
end
theorem Reps.length {H : Hp} : ∀ {xs : List V} {ds : List PyData}, Reps H xs ds → xs.length = ds.length
  | _, _, .nil => rfl
  | _, _, .cons _ r => congrArg Nat.succ (Reps.length r)
theorem Reps.get {H : Hp} : ∀ {xs : List V} {ds : List PyData} {i : Nat} {x : V}, Reps H xs ds → xs[i]? = some x → ∃ d, ds[i]? = some d ∧ Rep H x d
  | _, _, _, _, .nil, e => by simp at e
  | _, _, 0, _, .cons h _, e => by
    simp at e
    subst e
    exact ⟨_, rfl, h⟩
  | _, _, i + 1, x, .cons _ r, e => by
    obtain ⟨d, h1, h2⟩ := Reps.get (i := i) (x := x) r (by simpa using e)
    exact ⟨d, by simpa using h1, h2⟩
theorem depth_get : ∀ {ds : List PyData} {i : Nat} {d : PyData}, ds[i]? = some d → d.depth ≤ PyData.depthAll ds
  | [], _, _, e => by simp at e
  | x :: xs, 0, _, e => by
    simp at e
    subst e
    exact Nat.le_max_left _ _
  | x :: xs, i + 1, d, e => Nat.le_trans (depth_get (ds := xs) (i := i) (by simpa using e)) (Nat.le_max_right _ _)
mutual
def wid : PyData → Nat
  | .list xs => max xs.length (widAll xs)
  | .tuple xs => max xs.length (widAll xs)
  | .dict _ => 0
  | .none => 0
  | .bool _ => 0
  | .int _ => 0
  | .str _ => 0
def widAll : List PyData → Nat
  | [] => 0
  | x :: xs => max (wid x) (widAll xs)
end
theorem wid_get : ∀ {ds : List PyData} {i : Nat} {d : PyData}, ds[i]? = some d → wid d ≤ widAll ds
  | [], _, _, e => by simp at e
  | x :: xs, 0, _, e => by
    simp at e
    subst e
    exact Nat.le_max_left _ _
  | x :: xs, i + 1, d, e => Nat.le_trans (wid_get (ds := xs) (i := i) (by simpa using e)) (Nat.le_max_right _ _)
def tyD : PyData → String
  | .none => "NoneType" | .bool _ => "bool" | .int _ => "int" | .str _ => "str" | .list _ => "list" | .tuple _ => "tuple" | .dict _ => "dict"
theorem Rep.ty {K : PySem.W.Frag} {H : Hp} {v : V} {d : PyData} (h : Rep H v d) : TyX K H v (.type (tyD d)) := by
  cases h with
  | non => exact .base .non
  | bl b => exact .base (.bl b)
  | int b => exact .base (.int b)
  | str b => exact .base (.str b)
  | lst h _ => exact .base (.lst h)
  | tup h _ => exact .base (.tup h)
theorem kit_t (K : PySem.W.Frag) {a b : String} (h : (kitB a b).isSome = true) : ∃ r, PySem.W.kitOne K (.type a) (.type b) = some r := by
  obtain ⟨r, e⟩ := Option.isSome_iff_exists.mp h
  exact ⟨r, kit_ty e⟩
theorem kit_list (K : PySem.W.Frag) : ∀ d : PyData, ∃ b, PySem.W.kitOne K (.type (tyD d)) (.type "list") = some b
  | .none => kit_t K (a := "NoneType") (by decide +kernel) | .bool _ => kit_t K (a := "bool") (by decide +kernel) | .int _ => kit_t K (a := "int") (by decide +kernel) | .str _ => kit_t K (a := "str") (by decide +kernel)
  | .list _ => kit_t K (a := "list") (by decide +kernel) | .tuple _ => kit_t K (a := "tuple") (by decide +kernel) | .dict _ => kit_t K (a := "dict") (by decide +kernel)
theorem kit_tuple (K : PySem.W.Frag) : ∀ d : PyData, ∃ b, PySem.W.kitOne K (.type (tyD d)) (.type "tuple") = some b
  | .none => kit_t K (a := "NoneType") (by decide +kernel) | .bool _ => kit_t K (a := "bool") (by decide +kernel) | .int _ => kit_t K (a := "int") (by decide +kernel) | .str _ => kit_t K (a := "str") (by decide +kernel)
  | .list _ => kit_t K (a := "list") (by decide +kernel) | .tuple _ => kit_t K (a := "tuple") (by decide +kernel) | .dict _ => kit_t K (a := "dict") (by decide +kernel)
theorem kit_bool (K : PySem.W.Frag) : ∀ d : PyData, ∃ b, PySem.W.kitOne K (.type (tyD d)) (.type "bool") = some b
  | .none => kit_t K (a := "NoneType") (by decide +kernel) | .bool _ => kit_t K (a := "bool") (by decide +kernel) | .int _ => kit_t K (a := "int") (by decide +kernel) | .str _ => kit_t K (a := "str") (by decide +kernel)
  | .list _ => kit_t K (a := "list") (by decide +kernel) | .tuple _ => kit_t K (a := "tuple") (by decide +kernel) | .dict _ => kit_t K (a := "dict") (by decide +kernel)
theorem kit_int (K : PySem.W.Frag) : ∀ d : PyData, ∃ b, PySem.W.kitOne K (.type (tyD d)) (.type "int") = some b
  | .none => kit_t K (a := "NoneType") (by decide +kernel) | .bool _ => kit_t K (a := "bool") (by decide +kernel) | .int _ => kit_t K (a := "int") (by decide +kernel) | .str _ => kit_t K (a := "str") (by decide +kernel)
  | .list _ => kit_t K (a := "list") (by decide +kernel) | .tuple _ => kit_t K (a := "tuple") (by decide +kernel) | .dict _ => kit_t K (a := "dict") (by decide +kernel)
theorem kit_str (K : PySem.W.Frag) : ∀ d : PyData, ∃ b, PySem.W.kitOne K (.type (tyD d)) (.type "str") = some b
  | .none => kit_t K (a := "NoneType") (by decide +kernel) | .bool _ => kit_t K (a := "bool") (by decide +kernel) | .int _ => kit_t K (a := "int") (by decide +kernel) | .str _ => kit_t K (a := "str") (by decide +kernel)
  | .list _ => kit_t K (a := "list") (by decide +kernel) | .tuple _ => kit_t K (a := "tuple") (by decide +kernel) | .dict _ => kit_t K (a := "dict") (by decide +kernel)
theorem kit_scal (K : PySem.W.Frag) {a : String} (h1 : kitB a "list" = some false) (h2 : kitB a "tuple" = some false) : PySem.W.kitAny K (.type a) [.type "list", .type "tuple"] = some false :=
  kitAny_cons (b := false) (kit_ty h1) (fun _ => kitAny_cons (b := false) (kit_ty h2) (fun _ => kitAny_nil) (fun z => nomatch z)) (fun z => nomatch z)
def seqD : PyData → Bool
  | .list _ => true | .tuple _ => true | _ => false
theorem kit_seq (K : PySem.W.Frag) : ∀ d : PyData, PySem.W.kitAny K (.type (tyD d)) [.type "list", .type "tuple"] = some (seqD d)
  | .none => kit_scal K (a := "NoneType") (by decide +kernel) (by decide +kernel) | .bool _ => kit_scal K (a := "bool") (by decide +kernel) (by decide +kernel)
  | .int _ => kit_scal K (a := "int") (by decide +kernel) (by decide +kernel) | .str _ => kit_scal K (a := "str") (by decide +kernel) (by decide +kernel) | .dict _ => kit_scal K (a := "dict") (by decide +kernel) (by decide +kernel)
  | .list _ => kitAny_cons (b := true) (kit_ty (a := "list") (by decide +kernel)) (fun z => nomatch z) (fun _ => rfl)
  | .tuple _ => kitAny_cons (b := false) (kit_ty (a := "tuple") (by decide +kernel)) (fun _ => kitAny_cons (b := true) (kit_ty (a := "tuple") (by decide +kernel)) (fun z => nomatch z) (fun _ => rfl)) (fun z => nomatch z)
theorem walk_zipT {K : PySem.W.Frag} {a b : Addr} {xs ys : List V} {n : Nat} (hn : n = min xs.length ys.length) : Walk (RZ.ItzT K a b) n (fun H => SqT K H a xs ∧ SqT K H b ys) (YPair (fun i => xs[i]?) (fun i => ys[i]?)) := by
  subst hn
  refine ⟨fun i _ hi q => ?_, fun _ q => ⟨xs, ys, q.1, q.2, by omega⟩, fun i H v H' _ q y => ?_⟩
  · have h1 : i < xs.length := by omega
    have h2 : i < ys.length := by omega
    exact ⟨xs, ys, xs[i], ys[i], q.1, q.2, by simp [h1], by simp [h2]⟩
  · obtain ⟨T, x, z, h1, h2, h3, h4, h5⟩ := y
    exact ⟨T, x, z, h1, h2, h3, h4 xs q.1, h5 ys q.2⟩
theorem iteDT {c A B : Prop} [Decidable c] (hc : c) (h : A) : if decide c = true then A else B := by
  rw [decide_eq_true hc, if_pos rfl]
  exact h
def spSame (n : Nat) : Sp := fun vs H Q _ => ∃ (x y : V) (d : PyData), vs = [x, y] ∧ Rep H x d ∧ Rep H y d ∧ d.depth < n ∧ wid d ≤ 90000 ∧ ∀ H', Ex H H' → Q (.bl true) H'
section
variable {P : Program} {w : World} {K : PySem.W.Frag} {mg : Str → Option Value} {base : Heap}
theorem ok_law_same {AA : Adr} (T : Txt K mg AA) : ∀ n : Nat, Pr P w K mg base "_law_same" s_law_same p_law_same n (spSame n)
  | 0 => by
    obtain ⟨f, fd, F, hb, hm⟩ := T.f_law_same
    exact ⟨f, fd, hm, F, hb, fun vs H Q E h => by
      obtain ⟨x, y, d, _, _, _, h, _⟩ := h
      omega, fun A outer s H args us vs Q E _ _ _ _ h => by
      obtain ⟨x, y, d, _, _, _, h, _⟩ := h
      omega⟩
  | n + 1 => by
    have G := ok_law_same T n
    refine pr_mk T.f_law_same sc_law_same (fun vs H Q E h => ?_) (fun f cdv A outer s H vs Q E hr h => ?_)
    · obtain ⟨x, y, d, rfl, _⟩ := h
      rfl
    · obtain ⟨x, y, d, rfl, hx, hy, hd, hwd, q⟩ := h
      refine ⟨_, (pss_cons (ps_if (PW.pt (pw_or (pt_cmpR op_isN (pv 1) pe_non (nomark _)) (pw_or1 (pt_cmpR op_isN (pv 0) pe_non (nomark _)))))
      (pss_one (ps_ret (pe_and (pe_cmpR op_isN (pv 1) pe_non (nomark _)) (pe_one (pe_cmpR op_isN (pv 0) pe_non (nomark _))))))
      pss_nil)
      (pss_cons (ps_if (pt_val (pe_callB call_isiT (by rfl) T.n_isinstance PyProof.Rows.boot_isinstance (pa_cons (pv 1) (pa_cons (pe_tup (pa_cons (pe_bltn (v := .ty "list") (by rfl) T.n_list (by decide +kernel) rfl) (pa_cons (pe_bltn (v := .ty "tuple") (by rfl) T.n_tuple (by decide +kernel) rfl) pa_nil))) pa_nil))))
      (pss_cons (ps_if (PW.pt (pw_or (pt_cmpR op_ne (pe_callB (call_isiK (K := K) rfl) (by rfl) T.n_isinstance PyProof.Rows.boot_isinstance (pa_cons (pv 0) (pa_cons (pe_bltn (v := .ty "list") (by rfl) T.n_list (by decide +kernel) rfl) pa_nil))) (pe_callB (call_isiK (K := K) rfl) (by rfl) T.n_isinstance PyProof.Rows.boot_isinstance (pa_cons (pv 1) (pa_cons (pe_bltn (v := .ty "list") (by rfl) T.n_list (by decide +kernel) rfl) pa_nil))) (nomark _)) (pw_or1 (pt_cmpR op_ne (pe_callB (call_isiK (K := K) rfl) (by rfl) T.n_isinstance PyProof.Rows.boot_isinstance (pa_cons (pv 0) (pa_cons (pe_bltn (v := .ty "tuple") (by rfl) T.n_tuple (by decide +kernel) rfl) pa_nil))) (pe_callB (call_isiK (K := K) rfl) (by rfl) T.n_isinstance PyProof.Rows.boot_isinstance (pa_cons (pv 1) (pa_cons (pe_bltn (v := .ty "tuple") (by rfl) T.n_tuple (by decide +kernel) rfl) pa_nil))) (nomark _)))))
      (pss_one (ps_ret pe_bl))
      pss_nil)
      (pss_one (ps_ret (pe_and (pe_cmpR op_eq (pe_callB call_len (by rfl) T.n_len PySem.boot_len (pa_cons (pv 0) pa_nil)) (pe_callB call_len (by rfl) T.n_len PySem.boot_len (pa_cons (pv 1) pa_nil)) (nomark _)) (pe_one (pe_callB (cr_all rfl) (by rfl) T.n_all PyProof.Rows.boot_all (pa_cons (pe_lc (own := [("_law_x", 3), ("_law_y", 4)]) (g := gTup K 2 (gCons (gName 3) (gCons (gName 4) gNil))) (tt := tYes) rfl sc_law_same.nd (RZ.pi_zipA (by rfl) T.n_zip (pa_cons (pv 0) (pa_cons (pv 1) pa_nil))) (blkOk_by (own := [("_law_x", 3), ("_law_y", 4)]) (N := n_law_same) (sc := defScope s_law_same) (by decide +kernel)) (fun _ _ _ _ _ => (pg_tup (by rfl) (pgs_cons (pg_name (i := 3) sc_law_same.nd rfl (.inl rfl)) (pgs_cons (pg_name (i := 4) sc_law_same.nd rfl (.inl rfl)) pgs_nil)))) (fun _ _ _ _ _ => pts_nil) (fun _ _ _ _ _ => (pcall G hr (pa_cons (pv 3) (pa_cons (pv 4) pa_nil))))) pa_nil)))))))
      pss_nil)
      (pss_cons (ps_if (pt_val (pe_callB (call_isiK (K := K) rfl) (by rfl) T.n_isinstance PyProof.Rows.boot_isinstance (pa_cons (pv 1) (pa_cons (pe_bltn (v := .ty "dict") (by rfl) T.n_dict (by decide +kernel) rfl) pa_nil))))
      pss_never
      pss_nil)
      (pss_cons (ps_if (PW.pt (pw_or (pt_cmpR op_ne (pe_callB (call_isiK (K := K) rfl) (by rfl) T.n_isinstance PyProof.Rows.boot_isinstance (pa_cons (pv 1) (pa_cons (pe_bltn (v := .ty "bool") (by rfl) T.n_bool (by decide +kernel) rfl) pa_nil))) (pe_callB (call_isiK (K := K) rfl) (by rfl) T.n_isinstance PyProof.Rows.boot_isinstance (pa_cons (pv 0) (pa_cons (pe_bltn (v := .ty "bool") (by rfl) T.n_bool (by decide +kernel) rfl) pa_nil))) (nomark _)) (pw_or1 (pt_cmpR op_ne (pe_callB (call_isiK (K := K) rfl) (by rfl) T.n_isinstance PyProof.Rows.boot_isinstance (pa_cons (pv 1) (pa_cons (pe_bltn (v := .ty "int") (by rfl) T.n_int (by decide +kernel) rfl) pa_nil))) (pe_callB (call_isiK (K := K) rfl) (by rfl) T.n_isinstance PyProof.Rows.boot_isinstance (pa_cons (pv 0) (pa_cons (pe_bltn (v := .ty "int") (by rfl) T.n_int (by decide +kernel) rfl) pa_nil))) (nomark _)))))
      (pss_one (ps_ret pe_bl))
      pss_nil)
      (pss_one (ps_ret (pe_and (pe_cmpR op_eq (pe_callB (call_isiK (K := K) rfl) (by rfl) T.n_isinstance PyProof.Rows.boot_isinstance (pa_cons (pv 1) (pa_cons (pe_bltn (v := .ty "str") (by rfl) T.n_str (by decide +kernel) rfl) pa_nil))) (pe_callB (call_isiK (K := K) rfl) (by rfl) T.n_isinstance PyProof.Rows.boot_isinstance (pa_cons (pv 0) (pa_cons (pe_bltn (v := .ty "str") (by rfl) T.n_str (by decide +kernel) rfl) pa_nil))) (nomark _)) (pe_one (pe_cmpR op_eq (pv 0) (pv 1) (by rfl)))))))))), ?_⟩
      obtain ⟨kl, hkl⟩ := kit_list K d
      obtain ⟨kt, hkt⟩ := kit_tuple K d
      obtain ⟨kb, hkb⟩ := kit_bool K d
      obtain ⟨ki, hki⟩ := kit_int K d
      obtain ⟨ks, hks⟩ := kit_str K d
      -- if due is None or found is None
      refine ⟨_, rfl, rfl, _, rfl, ?_⟩
      by_cases hn : d = .none
      · subst hn
        cases hx
        cases hy
        refine iteT ?_
        refine iteT ?_
        refine ⟨_, rfl, rfl, _, rfl, iteT ?_⟩
        refine ⟨_, rfl, rfl, ?_⟩
        exact q _ (Ex.refl _)
      · have hxn : decide (x = V.non) = false := decide_eq_false fun e => by
          subst e
          cases hx
          exact hn rfl
        have hyn : decide (y = V.non) = false := decide_eq_false fun e => by
          subst e
          cases hy
          exact hn rfl
        rw [hyn]
        refine iteF ?_
        refine ⟨_, rfl, rfl, _, rfl, ?_⟩
        rw [hxn]
        refine iteF ?_
        -- if isinstance(due, (list, tuple))
        refine ⟨_, rfl, by show 2 ≤ sizeLine; decide, fun t1 ht1 => ?_⟩
        have e1 : Ex H (upd H t1 (.tup [.ty "list", .ty "tuple"])) := Ex.new ht1
        have hx := Rep.mono e1 hx
        have hy := Rep.mono e1 hy
        refine ⟨y, t1, [.ty "list", .ty "tuple"], _, [.type "list", .type "tuple"], _, rfl, upd_same, .cons (.ty _) (.cons (.ty _) .nil), hy.ty, kit_seq K d, _, rfl, ?_⟩
        generalize upd H t1 (.tup [.ty "list", .ty "tuple"]) = H1 at e1 hx hy
        cases hs : seqD d with
        | false =>
          refine iteF ?_
          have fl : PySem.W.kitOne K (.type (tyD d)) (.type "dict") = some false ∧ x = y ∧ scal x y = true := by
            cases hx with
            | non => exact absurd rfl hn
            | bl b => cases hy; exact ⟨kit_ty (a := "bool") (by decide +kernel), rfl, rfl⟩
            | int b => cases hy; exact ⟨kit_ty (a := "int") (by decide +kernel), rfl, rfl⟩
            | str b => cases hy; exact ⟨kit_ty (a := "str") (by decide +kernel), rfl, rfl⟩
            | lst _ _ => cases hs
            | tup _ _ => cases hs
          obtain ⟨hkd, hxy, hsc⟩ := fl
          subst hxy
          refine ⟨_, rfl, x, .ty "dict", _, _, _, rfl, .ty _, hy.ty, hkd, _, rfl, iteF ?_⟩
          refine ⟨_, rfl, x, .ty "bool", _, _, _, rfl, .ty _, hy.ty, hkb, _, rfl, x, .ty "bool", _, _, _, rfl, .ty _, hx.ty, hkb, rfl, _, rfl, ?_⟩
          refine iteNS rfl ?_
          refine ⟨_, rfl, x, .ty "int", _, _, _, rfl, .ty _, hy.ty, hki, _, rfl, x, .ty "int", _, _, _, rfl, .ty _, hx.ty, hki, rfl, _, rfl, ?_⟩
          refine iteNS rfl ?_
          refine ⟨_, rfl, x, .ty "str", _, _, _, rfl, .ty _, hy.ty, hks, _, rfl, x, .ty "str", _, _, _, rfl, .ty _, hx.ty, hks, rfl, _, rfl, iteDT rfl ?_⟩
          refine ⟨_, rfl, _, rfl, hsc, ?_⟩
          rw [decide_eq_true rfl]
          exact q _ e1
        | true =>
          refine iteT ?_
          -- kinds
          refine ⟨_, rfl, x, .ty "list", _, _, _, rfl, .ty _, hx.ty, hkl, _, rfl, y, .ty "list", _, _, _, rfl, .ty _, hy.ty, hkl, rfl, _, rfl, ?_⟩
          refine iteNS rfl ?_
          refine ⟨_, rfl, x, .ty "tuple", _, _, _, rfl, .ty _, hx.ty, hkt, _, rfl, y, .ty "tuple", _, _, _, rfl, .ty _, hy.ty, hkt, rfl, _, rfl, ?_⟩
          refine iteNS rfl ?_
          -- len(found) == len(due) and all([..])
          have main : ∃ (ds : List PyData) (p1 p2 : Addr) (xs ys : List V), x = .ref p1 ∧ y = .ref p2 ∧ Reps H1 xs ds ∧ Reps H1 ys ds ∧ PyData.depthAll ds < n ∧ ds.length ≤ 90000 ∧ widAll ds ≤ 90000 ∧ ((H1 p1 = some (.lst xs) ∧ H1 p2 = some (.lst ys)) ∨ (H1 p1 = some (.tup xs) ∧ H1 p2 = some (.tup ys))) := by
            cases hx with
            | non => exact absurd rfl hn
            | bl b => cases hs
            | int b => cases hs
            | str b => cases hs
            | lst h r =>
              cases hy with
              | lst h' r' => exact ⟨_, _, _, _, _, rfl, rfl, r, r', by simp only [PyData.depth] at hd; omega, by simp only [wid] at hwd; omega, by simp only [wid] at hwd; omega, .inl ⟨h, h'⟩⟩
            | tup h r =>
              cases hy with
              | tup h' r' => exact ⟨_, _, _, _, _, rfl, rfl, r, r', by simp only [PyData.depth] at hd; omega, by simp only [wid] at hwd; omega, by simp only [wid] at hwd; omega, .inr ⟨h, h'⟩⟩
          obtain ⟨ds, p1, p2, xs, ys, rfl, rfl, rx, ry, hdn, hl1, hl2, ho⟩ := main
          have lx := rx.length
          have ly := ry.length
          have LX : LenV K (.ref p1) H1 xs.length := by
            rcases ho with ⟨h, _⟩ | ⟨h, _⟩
            · exact .inl ⟨_, sq_of h, rfl⟩
            · exact .inr ⟨_, st_of h, rfl⟩
          have LY : LenV K (.ref p2) H1 ys.length := by
            rcases ho with ⟨_, h⟩ | ⟨_, h⟩
            · exact .inl ⟨_, sq_of h, rfl⟩
            · exact .inr ⟨_, st_of h, rfl⟩
          refine ⟨_, rfl, .ref p1, _, rfl, LX, _, rfl, .ref p2, _, rfl, LY, rfl, _, rfl, iteDT (by rw [lx, ly]) ?_⟩
          -- all([same(x, y) for x, y in zip(found, due)])
          have turn : ∀ (D : Addr) (i : Nat) (v : V) (H3 H4 : Hp), i < ds.length → (H1 D = none ∧ Ex H1 H3 ∧ H3 D = some (.lst (List.replicate i (V.bl true)))) → YPair (fun i => xs[i]?) (fun i => ys[i]?) i H3 v H4 →
              gTup K 2 (gCons (gName 3) (gCons (gName 4) gNil)) v [some (V.ref p1), some (V.ref p2), none, none, none] H4 fun σ2 H5 => wipe σ2 [3, 4] = [some (V.ref p1), some (V.ref p2), none, none, none] ∧ tYes σ2 H5 fun b H6 =>
                if b = true then tCall (spSame n) [] (fun _ _ _ => False) (tCons (tVar 3) (tCons (tVar 4) tNil)) σ2 H6 fun y H7 => ∃ acc, H7 D = some (.lst acc) ∧ acc.length < sizeLine ∧
                  (fun i H' => H1 D = none ∧ Ex H1 H' ∧ H' D = some (.lst (List.replicate i (V.bl true)))) (i + 1) (upd H7 D (.lst (acc ++ [y]))) else (fun i H' => H1 D = none ∧ Ex H1 H' ∧ H' D = some (.lst (List.replicate i (V.bl true)))) (i + 1) H6 := by
            intro D i v H3 H4 hi hp hy4
            obtain ⟨T1, u1, u2, rfl, hT, rfl, g1, g2⟩ := hy4
            obtain ⟨hD, ex3, hD3⟩ := hp
            obtain ⟨d1, hd1, r1⟩ := rx.get g1
            obtain ⟨d2, hd2, r2⟩ := ry.get g2
            rw [hd1] at hd2
            cases hd2
            have ex4 : Ex H3 (upd H3 T1 (.tup [u1, u2])) := Ex.new hT
            refine ⟨T1, [u1, u2], rfl, st_of upd_same, rfl, u1, [u2], rfl, u2, [], rfl, rfl, rfl, ?_⟩
            refine ⟨u1, rfl, u2, rfl, u1, u2, d1, rfl, Rep.mono (ex3.trans ex4) r1, Rep.mono (ex3.trans ex4) r2, Nat.lt_of_le_of_lt (depth_get hd1) hdn, Nat.le_trans (wid_get hd1) hl2, fun H7 e7 => ?_⟩
            refine ⟨_, e7 _ _ (ex4 _ _ hD3), ?_, hD, ((ex3.trans ex4).trans e7).mut hD, ?_⟩
            · rw [List.length_replicate]
              exact sz_lt (by omega)
            · rw [upd_same, List.replicate_succ']
          have fin : ∀ (D : Addr) (H' : Hp), (H1 D = none ∧ Ex H1 H' ∧ H' D = some (.lst (List.replicate ds.length (V.bl true)))) → tNil [some (V.ref p1), some (V.ref p2), none, none, none] H' fun xs H2 => rAll K (V.ref D :: xs) H2 Q := by
            intro D H' hp
            refine ⟨D, List.replicate ds.length true, rfl, sq_of (hp.2.2.trans (by rw [List.map_replicate])), ?_⟩
            rw [show (List.replicate ds.length true).all id = true by simp]
            exact q _ (e1.trans hp.2.1)
          rcases ho with ⟨h1, h2⟩ | ⟨h1, h2⟩
          · refine ⟨_, rfl, _, rfl, p1, p2, xs, ys, rfl, .inl ⟨sq_of h1, sq_of h2, fun D hD => lc_it (walk_zip (n := ds.length) (by omega)) (fun i H' => H1 D = none ∧ Ex H1 H' ∧ H' D = some (.lst (List.replicate i (V.bl true)))) ⟨hD, Ex.new hD, upd_same⟩ (fun i H' _ hp => ⟨sq_of (hp.2.1 _ _ h1), sq_of (hp.2.1 _ _ h2)⟩) (fun i v H3 H4 hi hp hy4 => turn D i v H3 H4 hi hp hy4) (fun H' hp => fin D H' hp)⟩⟩
          · refine ⟨_, rfl, _, rfl, p1, p2, xs, ys, rfl, .inr ⟨st_of h1, st_of h2, fun D hD => lc_it (walk_zipT (n := ds.length) (by omega)) (fun i H' => H1 D = none ∧ Ex H1 H' ∧ H' D = some (.lst (List.replicate i (V.bl true)))) ⟨hD, Ex.new hD, upd_same⟩ (fun i H' _ hp => ⟨st_of (hp.2.1 _ _ h1), st_of (hp.2.1 _ _ h2)⟩) (fun i v H3 H4 hi hp hy4 => turn D i v H3 H4 hi hp hy4) (fun H' hp => fin D H' hp)⟩⟩
end
end Eyes

set_option Elab.async false
set_option linter.all false
set_option maxRecDepth 100000
set_option maxHeartbeats 8000000
/-! The errors, made. -/
namespace Eyes
open PySem PySem.Spec PyProof.Rows L2 Evl TL
inductive ErrsAt (H : Hp) : List V → List (Addr × List (Str × V)) → Prop
  | nil : ErrsAt H [] []
  | cons {u : V} {us : List V} {C : Addr} {fs : List (Str × V)} {rs : List (Addr × List (Str × V))} (h : ErrV H u C fs) (t : ErrsAt H us rs) : ErrsAt H (u :: us) ((C, fs) :: rs)
theorem ErrsAt.mono {H G : Hp} {us : List V} {rs : List (Addr × List (Str × V))} (h : ErrsAt H us rs) (e : Ex H G) : ErrsAt G us rs := by
  induction h with
  | nil => exact .nil
  | cons h _ ih => exact .cons (h.mono e) ih
theorem ErrsAt.append {H : Hp} {us vs : List V} {rs ts : List (Addr × List (Str × V))} (h : ErrsAt H us rs) (g : ErrsAt H vs ts) : ErrsAt H (us ++ vs) (rs ++ ts) := by
  induction h with
  | nil => exact g
  | cons h _ ih => exact .cons h ih
theorem ErrsAt.len {H : Hp} {us : List V} {rs : List (Addr × List (Str × V))} (h : ErrsAt H us rs) : us.length = rs.length := by
  induction h with
  | nil => rfl
  | cons _ _ ih => rw [List.length_cons, List.length_cons, ih]
theorem ErrsAt.get {H : Hp} {us : List V} {rs : List (Addr × List (Str × V))} (h : ErrsAt H us rs) : ∀ {i : Nat} {r : Addr × List (Str × V)}, rs[i]? = some r → ∃ u, us[i]? = some u ∧ ErrV H u r.1 r.2 := by
  induction h with
  | nil => exact fun z => by cases z
  | cons h _ ih =>
    intro i r z
    cases i with
    | zero =>
      cases z
      exact ⟨_, rfl, h⟩
    | succ i => exact ih z
def rowsE (AA : Adr) (a b : V) : List (Addr × List (Str × V)) := [(AA.InvalidName, [(Str.ofString "value", a)]),
  (AA.InvalidNumber, [(Str.ofString "value", a)]),
  (AA.InvalidText, [(Str.ofString "at", a)]),
  (AA.InvalidCircle, [(Str.ofString "at", a)]),
  (AA.InvalidTie, [(Str.ofString "at", a)]),
  (AA.InvalidParting, [(Str.ofString "value", a)]),
  (AA.InvalidCase, [(Str.ofString "value", a)]),
  (AA.InvalidGrant, [(Str.ofString "at", a)]),
  (AA.InvalidBan, [(Str.ofString "at", a)]),
  (AA.InvalidShare, [(Str.ofString "at", a)]),
  (AA.InvalidSaying, [(Str.ofString "at", a)]),
  (AA.InvalidLog, [(Str.ofString "at", a)]),
  (AA.InvalidLot, [(Str.ofString "at", a)]),
  (AA.InvalidEyes, []),
  (AA.InvalidDeed, [(Str.ofString "at", a)]),
  (AA.InvalidQuestion, []),
  (AA.TooMany, [(Str.ofString "most", b), (Str.ofString "what", a)]),
  (AA.NotAlike, [(Str.ofString "other", b), (Str.ofString "one", a)]),
  (AA.CommonShown, [(Str.ofString "at", a)]),
  (AA.NotPooled, []),
  (AA.UnlikeSketches, []),
  (AA.NotSafe, [(Str.ofString "at", a)]),
  (AA.CannotStand, [(Str.ofString "at", a)]),
  (AA.NameTaken, [(Str.ofString "name", a)]),
  (AA.InUse, [(Str.ofString "name", a)]),
  (AA.UnknownName, [(Str.ofString "name", a)]),
  (AA.UnknownEye, [(Str.ofString "name", a)]),
  (AA.UnknownGrant, [(Str.ofString "at", a)]),
  (AA.UnknownBan, [(Str.ofString "at", a)]),
  (AA.UnknownShare, [(Str.ofString "at", a)]),
  (AA.UnknownSaying, [(Str.ofString "at", a)]),
  (AA.NothingLeft, [])]
def spBuild (AA : Adr) : Sp := fun vs H Q _ => ∃ a b : V, vs = [a, b] ∧ ∀ L us H2, Ex H H2 → H2 L = some (.lst us) → ErrsAt H2 us (rowsE AA a b) → Q (.ref L) H2
section
variable {P : Program} {w : World} {K : PySem.W.Frag} {mg : Str → Option Value} {base : Heap} {AA : Adr}
theorem ok_InvalidName___init (T : Txt K mg AA) {f : Addr} {fd : FuncData} (F : Fun K "__init__" "InvalidName.__init__" s_InvalidName___init f fd) (hb : Binds K fd p_InvalidName___init []) : FnOk P w K mg base CX0 1 f fd p_InvalidName___init (spErr1 AA.InvalidName "value") :=
  F.ok sc_InvalidName___init (fun vs H Q E h => by
    obtain ⟨a, v, rfl, _⟩ := h
    rfl) fun cdv A outer s H vs Q E hr h => by
    obtain ⟨a, v, rfl, ha, q⟩ := h
    refine ⟨_, (pss_one (ps_ostT (newId := "ValueError.__new__") PySem.F.store_ValueError (pv 0) (pv 1))), ?_⟩
    exact ⟨v, rfl, .ref a, rfl, a, AA.InvalidName, rfl, T.t_InvalidName.oex, T.a_InvalidName_value, ha, fun dx hd hne => q dx hd hne⟩
theorem ok_InvalidNumber___init (T : Txt K mg AA) {f : Addr} {fd : FuncData} (F : Fun K "__init__" "InvalidNumber.__init__" s_InvalidNumber___init f fd) (hb : Binds K fd p_InvalidNumber___init []) : FnOk P w K mg base CX0 1 f fd p_InvalidNumber___init (spErr1 AA.InvalidNumber "value") :=
  F.ok sc_InvalidNumber___init (fun vs H Q E h => by
    obtain ⟨a, v, rfl, _⟩ := h
    rfl) fun cdv A outer s H vs Q E hr h => by
    obtain ⟨a, v, rfl, ha, q⟩ := h
    refine ⟨_, (pss_one (ps_ostT (newId := "ValueError.__new__") PySem.F.store_ValueError (pv 0) (pv 1))), ?_⟩
    exact ⟨v, rfl, .ref a, rfl, a, AA.InvalidNumber, rfl, T.t_InvalidNumber.oex, T.a_InvalidNumber_value, ha, fun dx hd hne => q dx hd hne⟩
theorem ok_InvalidText___init (T : Txt K mg AA) {f : Addr} {fd : FuncData} (F : Fun K "__init__" "InvalidText.__init__" s_InvalidText___init f fd) (hb : Binds K fd p_InvalidText___init []) : FnOk P w K mg base CX0 1 f fd p_InvalidText___init (spErr1 AA.InvalidText "at") :=
  F.ok sc_InvalidText___init (fun vs H Q E h => by
    obtain ⟨a, v, rfl, _⟩ := h
    rfl) fun cdv A outer s H vs Q E hr h => by
    obtain ⟨a, v, rfl, ha, q⟩ := h
    refine ⟨_, (pss_one (ps_ostT (newId := "ValueError.__new__") PySem.F.store_ValueError (pv 0) (pv 1))), ?_⟩
    exact ⟨v, rfl, .ref a, rfl, a, AA.InvalidText, rfl, T.t_InvalidText.oex, T.a_InvalidText_at, ha, fun dx hd hne => q dx hd hne⟩
theorem ok_InvalidCircle___init (T : Txt K mg AA) {f : Addr} {fd : FuncData} (F : Fun K "__init__" "InvalidCircle.__init__" s_InvalidCircle___init f fd) (hb : Binds K fd p_InvalidCircle___init []) : FnOk P w K mg base CX0 1 f fd p_InvalidCircle___init (spErr1 AA.InvalidCircle "at") :=
  F.ok sc_InvalidCircle___init (fun vs H Q E h => by
    obtain ⟨a, v, rfl, _⟩ := h
    rfl) fun cdv A outer s H vs Q E hr h => by
    obtain ⟨a, v, rfl, ha, q⟩ := h
    refine ⟨_, (pss_one (ps_ostT (newId := "ValueError.__new__") PySem.F.store_ValueError (pv 0) (pv 1))), ?_⟩
    exact ⟨v, rfl, .ref a, rfl, a, AA.InvalidCircle, rfl, T.t_InvalidCircle.oex, T.a_InvalidCircle_at, ha, fun dx hd hne => q dx hd hne⟩
theorem ok_InvalidTie___init (T : Txt K mg AA) {f : Addr} {fd : FuncData} (F : Fun K "__init__" "InvalidTie.__init__" s_InvalidTie___init f fd) (hb : Binds K fd p_InvalidTie___init []) : FnOk P w K mg base CX0 1 f fd p_InvalidTie___init (spErr1 AA.InvalidTie "at") :=
  F.ok sc_InvalidTie___init (fun vs H Q E h => by
    obtain ⟨a, v, rfl, _⟩ := h
    rfl) fun cdv A outer s H vs Q E hr h => by
    obtain ⟨a, v, rfl, ha, q⟩ := h
    refine ⟨_, (pss_one (ps_ostT (newId := "ValueError.__new__") PySem.F.store_ValueError (pv 0) (pv 1))), ?_⟩
    exact ⟨v, rfl, .ref a, rfl, a, AA.InvalidTie, rfl, T.t_InvalidTie.oex, T.a_InvalidTie_at, ha, fun dx hd hne => q dx hd hne⟩
theorem ok_InvalidParting___init (T : Txt K mg AA) {f : Addr} {fd : FuncData} (F : Fun K "__init__" "InvalidParting.__init__" s_InvalidParting___init f fd) (hb : Binds K fd p_InvalidParting___init []) : FnOk P w K mg base CX0 1 f fd p_InvalidParting___init (spErr1 AA.InvalidParting "value") :=
  F.ok sc_InvalidParting___init (fun vs H Q E h => by
    obtain ⟨a, v, rfl, _⟩ := h
    rfl) fun cdv A outer s H vs Q E hr h => by
    obtain ⟨a, v, rfl, ha, q⟩ := h
    refine ⟨_, (pss_one (ps_ostT (newId := "ValueError.__new__") PySem.F.store_ValueError (pv 0) (pv 1))), ?_⟩
    exact ⟨v, rfl, .ref a, rfl, a, AA.InvalidParting, rfl, T.t_InvalidParting.oex, T.a_InvalidParting_value, ha, fun dx hd hne => q dx hd hne⟩
theorem ok_InvalidCase___init (T : Txt K mg AA) {f : Addr} {fd : FuncData} (F : Fun K "__init__" "InvalidCase.__init__" s_InvalidCase___init f fd) (hb : Binds K fd p_InvalidCase___init []) : FnOk P w K mg base CX0 1 f fd p_InvalidCase___init (spErr1 AA.InvalidCase "value") :=
  F.ok sc_InvalidCase___init (fun vs H Q E h => by
    obtain ⟨a, v, rfl, _⟩ := h
    rfl) fun cdv A outer s H vs Q E hr h => by
    obtain ⟨a, v, rfl, ha, q⟩ := h
    refine ⟨_, (pss_one (ps_ostT (newId := "ValueError.__new__") PySem.F.store_ValueError (pv 0) (pv 1))), ?_⟩
    exact ⟨v, rfl, .ref a, rfl, a, AA.InvalidCase, rfl, T.t_InvalidCase.oex, T.a_InvalidCase_value, ha, fun dx hd hne => q dx hd hne⟩
theorem ok_InvalidGrant___init (T : Txt K mg AA) {f : Addr} {fd : FuncData} (F : Fun K "__init__" "InvalidGrant.__init__" s_InvalidGrant___init f fd) (hb : Binds K fd p_InvalidGrant___init []) : FnOk P w K mg base CX0 1 f fd p_InvalidGrant___init (spErr1 AA.InvalidGrant "at") :=
  F.ok sc_InvalidGrant___init (fun vs H Q E h => by
    obtain ⟨a, v, rfl, _⟩ := h
    rfl) fun cdv A outer s H vs Q E hr h => by
    obtain ⟨a, v, rfl, ha, q⟩ := h
    refine ⟨_, (pss_one (ps_ostT (newId := "ValueError.__new__") PySem.F.store_ValueError (pv 0) (pv 1))), ?_⟩
    exact ⟨v, rfl, .ref a, rfl, a, AA.InvalidGrant, rfl, T.t_InvalidGrant.oex, T.a_InvalidGrant_at, ha, fun dx hd hne => q dx hd hne⟩
theorem ok_InvalidBan___init (T : Txt K mg AA) {f : Addr} {fd : FuncData} (F : Fun K "__init__" "InvalidBan.__init__" s_InvalidBan___init f fd) (hb : Binds K fd p_InvalidBan___init []) : FnOk P w K mg base CX0 1 f fd p_InvalidBan___init (spErr1 AA.InvalidBan "at") :=
  F.ok sc_InvalidBan___init (fun vs H Q E h => by
    obtain ⟨a, v, rfl, _⟩ := h
    rfl) fun cdv A outer s H vs Q E hr h => by
    obtain ⟨a, v, rfl, ha, q⟩ := h
    refine ⟨_, (pss_one (ps_ostT (newId := "ValueError.__new__") PySem.F.store_ValueError (pv 0) (pv 1))), ?_⟩
    exact ⟨v, rfl, .ref a, rfl, a, AA.InvalidBan, rfl, T.t_InvalidBan.oex, T.a_InvalidBan_at, ha, fun dx hd hne => q dx hd hne⟩
theorem ok_InvalidShare___init (T : Txt K mg AA) {f : Addr} {fd : FuncData} (F : Fun K "__init__" "InvalidShare.__init__" s_InvalidShare___init f fd) (hb : Binds K fd p_InvalidShare___init []) : FnOk P w K mg base CX0 1 f fd p_InvalidShare___init (spErr1 AA.InvalidShare "at") :=
  F.ok sc_InvalidShare___init (fun vs H Q E h => by
    obtain ⟨a, v, rfl, _⟩ := h
    rfl) fun cdv A outer s H vs Q E hr h => by
    obtain ⟨a, v, rfl, ha, q⟩ := h
    refine ⟨_, (pss_one (ps_ostT (newId := "ValueError.__new__") PySem.F.store_ValueError (pv 0) (pv 1))), ?_⟩
    exact ⟨v, rfl, .ref a, rfl, a, AA.InvalidShare, rfl, T.t_InvalidShare.oex, T.a_InvalidShare_at, ha, fun dx hd hne => q dx hd hne⟩
theorem ok_InvalidSaying___init (T : Txt K mg AA) {f : Addr} {fd : FuncData} (F : Fun K "__init__" "InvalidSaying.__init__" s_InvalidSaying___init f fd) (hb : Binds K fd p_InvalidSaying___init []) : FnOk P w K mg base CX0 1 f fd p_InvalidSaying___init (spErr1 AA.InvalidSaying "at") :=
  F.ok sc_InvalidSaying___init (fun vs H Q E h => by
    obtain ⟨a, v, rfl, _⟩ := h
    rfl) fun cdv A outer s H vs Q E hr h => by
    obtain ⟨a, v, rfl, ha, q⟩ := h
    refine ⟨_, (pss_one (ps_ostT (newId := "ValueError.__new__") PySem.F.store_ValueError (pv 0) (pv 1))), ?_⟩
    exact ⟨v, rfl, .ref a, rfl, a, AA.InvalidSaying, rfl, T.t_InvalidSaying.oex, T.a_InvalidSaying_at, ha, fun dx hd hne => q dx hd hne⟩
theorem ok_InvalidLog___init (T : Txt K mg AA) {f : Addr} {fd : FuncData} (F : Fun K "__init__" "InvalidLog.__init__" s_InvalidLog___init f fd) (hb : Binds K fd p_InvalidLog___init []) : FnOk P w K mg base CX0 1 f fd p_InvalidLog___init (spErr1 AA.InvalidLog "at") :=
  F.ok sc_InvalidLog___init (fun vs H Q E h => by
    obtain ⟨a, v, rfl, _⟩ := h
    rfl) fun cdv A outer s H vs Q E hr h => by
    obtain ⟨a, v, rfl, ha, q⟩ := h
    refine ⟨_, (pss_one (ps_ostT (newId := "ValueError.__new__") PySem.F.store_ValueError (pv 0) (pv 1))), ?_⟩
    exact ⟨v, rfl, .ref a, rfl, a, AA.InvalidLog, rfl, T.t_InvalidLog.oex, T.a_InvalidLog_at, ha, fun dx hd hne => q dx hd hne⟩
theorem ok_InvalidLot___init (T : Txt K mg AA) {f : Addr} {fd : FuncData} (F : Fun K "__init__" "InvalidLot.__init__" s_InvalidLot___init f fd) (hb : Binds K fd p_InvalidLot___init []) : FnOk P w K mg base CX0 1 f fd p_InvalidLot___init (spErr1 AA.InvalidLot "at") :=
  F.ok sc_InvalidLot___init (fun vs H Q E h => by
    obtain ⟨a, v, rfl, _⟩ := h
    rfl) fun cdv A outer s H vs Q E hr h => by
    obtain ⟨a, v, rfl, ha, q⟩ := h
    refine ⟨_, (pss_one (ps_ostT (newId := "ValueError.__new__") PySem.F.store_ValueError (pv 0) (pv 1))), ?_⟩
    exact ⟨v, rfl, .ref a, rfl, a, AA.InvalidLot, rfl, T.t_InvalidLot.oex, T.a_InvalidLot_at, ha, fun dx hd hne => q dx hd hne⟩
theorem ok_InvalidDeed___init (T : Txt K mg AA) {f : Addr} {fd : FuncData} (F : Fun K "__init__" "InvalidDeed.__init__" s_InvalidDeed___init f fd) (hb : Binds K fd p_InvalidDeed___init []) : FnOk P w K mg base CX0 1 f fd p_InvalidDeed___init (spErr1 AA.InvalidDeed "at") :=
  F.ok sc_InvalidDeed___init (fun vs H Q E h => by
    obtain ⟨a, v, rfl, _⟩ := h
    rfl) fun cdv A outer s H vs Q E hr h => by
    obtain ⟨a, v, rfl, ha, q⟩ := h
    refine ⟨_, (pss_one (ps_ostT (newId := "ValueError.__new__") PySem.F.store_ValueError (pv 0) (pv 1))), ?_⟩
    exact ⟨v, rfl, .ref a, rfl, a, AA.InvalidDeed, rfl, T.t_InvalidDeed.oex, T.a_InvalidDeed_at, ha, fun dx hd hne => q dx hd hne⟩
theorem ok_CommonShown___init (T : Txt K mg AA) {f : Addr} {fd : FuncData} (F : Fun K "__init__" "CommonShown.__init__" s_CommonShown___init f fd) (hb : Binds K fd p_CommonShown___init []) : FnOk P w K mg base CX0 1 f fd p_CommonShown___init (spErr1 AA.CommonShown "at") :=
  F.ok sc_CommonShown___init (fun vs H Q E h => by
    obtain ⟨a, v, rfl, _⟩ := h
    rfl) fun cdv A outer s H vs Q E hr h => by
    obtain ⟨a, v, rfl, ha, q⟩ := h
    refine ⟨_, (pss_one (ps_ostT (newId := "ValueError.__new__") PySem.F.store_ValueError (pv 0) (pv 1))), ?_⟩
    exact ⟨v, rfl, .ref a, rfl, a, AA.CommonShown, rfl, T.t_CommonShown.oex, T.a_CommonShown_at, ha, fun dx hd hne => q dx hd hne⟩
theorem ok_NotSafe___init (T : Txt K mg AA) {f : Addr} {fd : FuncData} (F : Fun K "__init__" "NotSafe.__init__" s_NotSafe___init f fd) (hb : Binds K fd p_NotSafe___init []) : FnOk P w K mg base CX0 1 f fd p_NotSafe___init (spErr1 AA.NotSafe "at") :=
  F.ok sc_NotSafe___init (fun vs H Q E h => by
    obtain ⟨a, v, rfl, _⟩ := h
    rfl) fun cdv A outer s H vs Q E hr h => by
    obtain ⟨a, v, rfl, ha, q⟩ := h
    refine ⟨_, (pss_one (ps_ostT (newId := "ValueError.__new__") PySem.F.store_ValueError (pv 0) (pv 1))), ?_⟩
    exact ⟨v, rfl, .ref a, rfl, a, AA.NotSafe, rfl, T.t_NotSafe.oex, T.a_NotSafe_at, ha, fun dx hd hne => q dx hd hne⟩
theorem ok_CannotStand___init (T : Txt K mg AA) {f : Addr} {fd : FuncData} (F : Fun K "__init__" "CannotStand.__init__" s_CannotStand___init f fd) (hb : Binds K fd p_CannotStand___init []) : FnOk P w K mg base CX0 1 f fd p_CannotStand___init (spErr1 AA.CannotStand "at") :=
  F.ok sc_CannotStand___init (fun vs H Q E h => by
    obtain ⟨a, v, rfl, _⟩ := h
    rfl) fun cdv A outer s H vs Q E hr h => by
    obtain ⟨a, v, rfl, ha, q⟩ := h
    refine ⟨_, (pss_one (ps_ostT (newId := "ValueError.__new__") PySem.F.store_ValueError (pv 0) (pv 1))), ?_⟩
    exact ⟨v, rfl, .ref a, rfl, a, AA.CannotStand, rfl, T.t_CannotStand.oex, T.a_CannotStand_at, ha, fun dx hd hne => q dx hd hne⟩
theorem ok_NameTaken___init (T : Txt K mg AA) {f : Addr} {fd : FuncData} (F : Fun K "__init__" "NameTaken.__init__" s_NameTaken___init f fd) (hb : Binds K fd p_NameTaken___init []) : FnOk P w K mg base CX0 1 f fd p_NameTaken___init (spErr1 AA.NameTaken "name") :=
  F.ok sc_NameTaken___init (fun vs H Q E h => by
    obtain ⟨a, v, rfl, _⟩ := h
    rfl) fun cdv A outer s H vs Q E hr h => by
    obtain ⟨a, v, rfl, ha, q⟩ := h
    refine ⟨_, (pss_one (ps_ostT (newId := "ValueError.__new__") PySem.F.store_ValueError (pv 0) (pv 1))), ?_⟩
    exact ⟨v, rfl, .ref a, rfl, a, AA.NameTaken, rfl, T.t_NameTaken.oex, T.a_NameTaken_name, ha, fun dx hd hne => q dx hd hne⟩
theorem ok_InUse___init (T : Txt K mg AA) {f : Addr} {fd : FuncData} (F : Fun K "__init__" "InUse.__init__" s_InUse___init f fd) (hb : Binds K fd p_InUse___init []) : FnOk P w K mg base CX0 1 f fd p_InUse___init (spErr1 AA.InUse "name") :=
  F.ok sc_InUse___init (fun vs H Q E h => by
    obtain ⟨a, v, rfl, _⟩ := h
    rfl) fun cdv A outer s H vs Q E hr h => by
    obtain ⟨a, v, rfl, ha, q⟩ := h
    refine ⟨_, (pss_one (ps_ostT (newId := "ValueError.__new__") PySem.F.store_ValueError (pv 0) (pv 1))), ?_⟩
    exact ⟨v, rfl, .ref a, rfl, a, AA.InUse, rfl, T.t_InUse.oex, T.a_InUse_name, ha, fun dx hd hne => q dx hd hne⟩
theorem ok_UnknownName___init (T : Txt K mg AA) {f : Addr} {fd : FuncData} (F : Fun K "__init__" "UnknownName.__init__" s_UnknownName___init f fd) (hb : Binds K fd p_UnknownName___init []) : FnOk P w K mg base CX0 1 f fd p_UnknownName___init (spErr1 AA.UnknownName "name") :=
  F.ok sc_UnknownName___init (fun vs H Q E h => by
    obtain ⟨a, v, rfl, _⟩ := h
    rfl) fun cdv A outer s H vs Q E hr h => by
    obtain ⟨a, v, rfl, ha, q⟩ := h
    refine ⟨_, (pss_one (ps_ostT (newId := "LookupError.__new__") PySem.F.store_LookupError (pv 0) (pv 1))), ?_⟩
    exact ⟨v, rfl, .ref a, rfl, a, AA.UnknownName, rfl, T.t_UnknownName.oex, T.a_UnknownName_name, ha, fun dx hd hne => q dx hd hne⟩
theorem ok_UnknownEye___init (T : Txt K mg AA) {f : Addr} {fd : FuncData} (F : Fun K "__init__" "UnknownEye.__init__" s_UnknownEye___init f fd) (hb : Binds K fd p_UnknownEye___init []) : FnOk P w K mg base CX0 1 f fd p_UnknownEye___init (spErr1 AA.UnknownEye "name") :=
  F.ok sc_UnknownEye___init (fun vs H Q E h => by
    obtain ⟨a, v, rfl, _⟩ := h
    rfl) fun cdv A outer s H vs Q E hr h => by
    obtain ⟨a, v, rfl, ha, q⟩ := h
    refine ⟨_, (pss_one (ps_ostT (newId := "LookupError.__new__") PySem.F.store_LookupError (pv 0) (pv 1))), ?_⟩
    exact ⟨v, rfl, .ref a, rfl, a, AA.UnknownEye, rfl, T.t_UnknownEye.oex, T.a_UnknownEye_name, ha, fun dx hd hne => q dx hd hne⟩
theorem ok_UnknownGrant___init (T : Txt K mg AA) {f : Addr} {fd : FuncData} (F : Fun K "__init__" "UnknownGrant.__init__" s_UnknownGrant___init f fd) (hb : Binds K fd p_UnknownGrant___init []) : FnOk P w K mg base CX0 1 f fd p_UnknownGrant___init (spErr1 AA.UnknownGrant "at") :=
  F.ok sc_UnknownGrant___init (fun vs H Q E h => by
    obtain ⟨a, v, rfl, _⟩ := h
    rfl) fun cdv A outer s H vs Q E hr h => by
    obtain ⟨a, v, rfl, ha, q⟩ := h
    refine ⟨_, (pss_one (ps_ostT (newId := "LookupError.__new__") PySem.F.store_LookupError (pv 0) (pv 1))), ?_⟩
    exact ⟨v, rfl, .ref a, rfl, a, AA.UnknownGrant, rfl, T.t_UnknownGrant.oex, T.a_UnknownGrant_at, ha, fun dx hd hne => q dx hd hne⟩
theorem ok_UnknownBan___init (T : Txt K mg AA) {f : Addr} {fd : FuncData} (F : Fun K "__init__" "UnknownBan.__init__" s_UnknownBan___init f fd) (hb : Binds K fd p_UnknownBan___init []) : FnOk P w K mg base CX0 1 f fd p_UnknownBan___init (spErr1 AA.UnknownBan "at") :=
  F.ok sc_UnknownBan___init (fun vs H Q E h => by
    obtain ⟨a, v, rfl, _⟩ := h
    rfl) fun cdv A outer s H vs Q E hr h => by
    obtain ⟨a, v, rfl, ha, q⟩ := h
    refine ⟨_, (pss_one (ps_ostT (newId := "LookupError.__new__") PySem.F.store_LookupError (pv 0) (pv 1))), ?_⟩
    exact ⟨v, rfl, .ref a, rfl, a, AA.UnknownBan, rfl, T.t_UnknownBan.oex, T.a_UnknownBan_at, ha, fun dx hd hne => q dx hd hne⟩
theorem ok_UnknownShare___init (T : Txt K mg AA) {f : Addr} {fd : FuncData} (F : Fun K "__init__" "UnknownShare.__init__" s_UnknownShare___init f fd) (hb : Binds K fd p_UnknownShare___init []) : FnOk P w K mg base CX0 1 f fd p_UnknownShare___init (spErr1 AA.UnknownShare "at") :=
  F.ok sc_UnknownShare___init (fun vs H Q E h => by
    obtain ⟨a, v, rfl, _⟩ := h
    rfl) fun cdv A outer s H vs Q E hr h => by
    obtain ⟨a, v, rfl, ha, q⟩ := h
    refine ⟨_, (pss_one (ps_ostT (newId := "LookupError.__new__") PySem.F.store_LookupError (pv 0) (pv 1))), ?_⟩
    exact ⟨v, rfl, .ref a, rfl, a, AA.UnknownShare, rfl, T.t_UnknownShare.oex, T.a_UnknownShare_at, ha, fun dx hd hne => q dx hd hne⟩
theorem ok_UnknownSaying___init (T : Txt K mg AA) {f : Addr} {fd : FuncData} (F : Fun K "__init__" "UnknownSaying.__init__" s_UnknownSaying___init f fd) (hb : Binds K fd p_UnknownSaying___init []) : FnOk P w K mg base CX0 1 f fd p_UnknownSaying___init (spErr1 AA.UnknownSaying "at") :=
  F.ok sc_UnknownSaying___init (fun vs H Q E h => by
    obtain ⟨a, v, rfl, _⟩ := h
    rfl) fun cdv A outer s H vs Q E hr h => by
    obtain ⟨a, v, rfl, ha, q⟩ := h
    refine ⟨_, (pss_one (ps_ostT (newId := "LookupError.__new__") PySem.F.store_LookupError (pv 0) (pv 1))), ?_⟩
    exact ⟨v, rfl, .ref a, rfl, a, AA.UnknownSaying, rfl, T.t_UnknownSaying.oex, T.a_UnknownSaying_at, ha, fun dx hd hne => q dx hd hne⟩
theorem kwe_InvalidName_value : KwOkM "__init__" "InvalidName.__init__" s_InvalidName___init p_InvalidName___init ["value"] [0, 1] := fun _ _ _ _ _ _ us ws h1 h2 => match us, ws, h1, h2 with | [_], [_], _, _ => rfl
theorem kwe_InvalidNumber_value : KwOkM "__init__" "InvalidNumber.__init__" s_InvalidNumber___init p_InvalidNumber___init ["value"] [0, 1] := fun _ _ _ _ _ _ us ws h1 h2 => match us, ws, h1, h2 with | [_], [_], _, _ => rfl
theorem kwe_InvalidText_at : KwOkM "__init__" "InvalidText.__init__" s_InvalidText___init p_InvalidText___init ["at"] [0, 1] := fun _ _ _ _ _ _ us ws h1 h2 => match us, ws, h1, h2 with | [_], [_], _, _ => rfl
theorem kwe_InvalidCircle_at : KwOkM "__init__" "InvalidCircle.__init__" s_InvalidCircle___init p_InvalidCircle___init ["at"] [0, 1] := fun _ _ _ _ _ _ us ws h1 h2 => match us, ws, h1, h2 with | [_], [_], _, _ => rfl
theorem kwe_InvalidTie_at : KwOkM "__init__" "InvalidTie.__init__" s_InvalidTie___init p_InvalidTie___init ["at"] [0, 1] := fun _ _ _ _ _ _ us ws h1 h2 => match us, ws, h1, h2 with | [_], [_], _, _ => rfl
theorem kwe_NotAlike_other_one : KwOkM "__init__" "NotAlike.__init__" s_NotAlike___init p_NotAlike___init ["other", "one"] [0, 2, 1] := fun _ _ _ _ _ _ us ws h1 h2 => match us, ws, h1, h2 with | [_], [_, _], _, _ => rfl
theorem kwe_InUse_name : KwOkM "__init__" "InUse.__init__" s_InUse___init p_InUse___init ["name"] [0, 1] := fun _ _ _ _ _ _ us ws h1 h2 => match us, ws, h1, h2 with | [_], [_], _, _ => rfl
theorem kwe_UnknownSaying_at : KwOkM "__init__" "UnknownSaying.__init__" s_UnknownSaying___init p_UnknownSaying___init ["at"] [0, 1] := fun _ _ _ _ _ _ us ws h1 h2 => match us, ws, h1, h2 with | [_], [_], _, _ => rfl
theorem kwe_UnknownName_name : KwOkM "__init__" "UnknownName.__init__" s_UnknownName___init p_UnknownName___init ["name"] [0, 1] := fun _ _ _ _ _ _ us ws h1 h2 => match us, ws, h1, h2 with | [_], [_], _, _ => rfl
theorem kwe_InvalidParting_value : KwOkM "__init__" "InvalidParting.__init__" s_InvalidParting___init p_InvalidParting___init ["value"] [0, 1] := fun _ _ _ _ _ _ us ws h1 h2 => match us, ws, h1, h2 with | [_], [_], _, _ => rfl
theorem kwe_InvalidCase_value : KwOkM "__init__" "InvalidCase.__init__" s_InvalidCase___init p_InvalidCase___init ["value"] [0, 1] := fun _ _ _ _ _ _ us ws h1 h2 => match us, ws, h1, h2 with | [_], [_], _, _ => rfl
theorem kwe_InvalidGrant_at : KwOkM "__init__" "InvalidGrant.__init__" s_InvalidGrant___init p_InvalidGrant___init ["at"] [0, 1] := fun _ _ _ _ _ _ us ws h1 h2 => match us, ws, h1, h2 with | [_], [_], _, _ => rfl
theorem kwe_InvalidBan_at : KwOkM "__init__" "InvalidBan.__init__" s_InvalidBan___init p_InvalidBan___init ["at"] [0, 1] := fun _ _ _ _ _ _ us ws h1 h2 => match us, ws, h1, h2 with | [_], [_], _, _ => rfl
theorem kwe_InvalidShare_at : KwOkM "__init__" "InvalidShare.__init__" s_InvalidShare___init p_InvalidShare___init ["at"] [0, 1] := fun _ _ _ _ _ _ us ws h1 h2 => match us, ws, h1, h2 with | [_], [_], _, _ => rfl
theorem kwe_InvalidSaying_at : KwOkM "__init__" "InvalidSaying.__init__" s_InvalidSaying___init p_InvalidSaying___init ["at"] [0, 1] := fun _ _ _ _ _ _ us ws h1 h2 => match us, ws, h1, h2 with | [_], [_], _, _ => rfl
theorem kwe_InvalidLog_at : KwOkM "__init__" "InvalidLog.__init__" s_InvalidLog___init p_InvalidLog___init ["at"] [0, 1] := fun _ _ _ _ _ _ us ws h1 h2 => match us, ws, h1, h2 with | [_], [_], _, _ => rfl
theorem kwe_InvalidLot_at : KwOkM "__init__" "InvalidLot.__init__" s_InvalidLot___init p_InvalidLot___init ["at"] [0, 1] := fun _ _ _ _ _ _ us ws h1 h2 => match us, ws, h1, h2 with | [_], [_], _, _ => rfl
theorem kwe_InvalidDeed_at : KwOkM "__init__" "InvalidDeed.__init__" s_InvalidDeed___init p_InvalidDeed___init ["at"] [0, 1] := fun _ _ _ _ _ _ us ws h1 h2 => match us, ws, h1, h2 with | [_], [_], _, _ => rfl
theorem kwe_TooMany_most_what : KwOkM "__init__" "TooMany.__init__" s_TooMany___init p_TooMany___init ["most", "what"] [0, 2, 1] := fun _ _ _ _ _ _ us ws h1 h2 => match us, ws, h1, h2 with | [_], [_, _], _, _ => rfl
theorem kwe_CommonShown_at : KwOkM "__init__" "CommonShown.__init__" s_CommonShown___init p_CommonShown___init ["at"] [0, 1] := fun _ _ _ _ _ _ us ws h1 h2 => match us, ws, h1, h2 with | [_], [_], _, _ => rfl
theorem kwe_NotSafe_at : KwOkM "__init__" "NotSafe.__init__" s_NotSafe___init p_NotSafe___init ["at"] [0, 1] := fun _ _ _ _ _ _ us ws h1 h2 => match us, ws, h1, h2 with | [_], [_], _, _ => rfl
theorem kwe_CannotStand_at : KwOkM "__init__" "CannotStand.__init__" s_CannotStand___init p_CannotStand___init ["at"] [0, 1] := fun _ _ _ _ _ _ us ws h1 h2 => match us, ws, h1, h2 with | [_], [_], _, _ => rfl
theorem kwe_NameTaken_name : KwOkM "__init__" "NameTaken.__init__" s_NameTaken___init p_NameTaken___init ["name"] [0, 1] := fun _ _ _ _ _ _ us ws h1 h2 => match us, ws, h1, h2 with | [_], [_], _, _ => rfl
theorem kwe_UnknownEye_name : KwOkM "__init__" "UnknownEye.__init__" s_UnknownEye___init p_UnknownEye___init ["name"] [0, 1] := fun _ _ _ _ _ _ us ws h1 h2 => match us, ws, h1, h2 with | [_], [_], _, _ => rfl
theorem kwe_UnknownGrant_at : KwOkM "__init__" "UnknownGrant.__init__" s_UnknownGrant___init p_UnknownGrant___init ["at"] [0, 1] := fun _ _ _ _ _ _ us ws h1 h2 => match us, ws, h1, h2 with | [_], [_], _, _ => rfl
theorem kwe_UnknownBan_at : KwOkM "__init__" "UnknownBan.__init__" s_UnknownBan___init p_UnknownBan___init ["at"] [0, 1] := fun _ _ _ _ _ _ us ws h1 h2 => match us, ws, h1, h2 with | [_], [_], _, _ => rfl
theorem kwe_UnknownShare_at : KwOkM "__init__" "UnknownShare.__init__" s_UnknownShare___init p_UnknownShare___init ["at"] [0, 1] := fun _ _ _ _ _ _ us ws h1 h2 => match us, ws, h1, h2 with | [_], [_], _, _ => rfl
theorem ok_TooMany___init (T : Txt K mg AA) {f : Addr} {fd : FuncData} (F : Fun K "__init__" "TooMany.__init__" s_TooMany___init f fd) (hb : Binds K fd p_TooMany___init []) : FnOk P w K mg base CX0 1 f fd p_TooMany___init (spErr2 AA.TooMany "what" "most") :=
  F.ok sc_TooMany___init (fun vs H Q E h => by
    obtain ⟨a, v, u, rfl, _⟩ := h
    rfl) fun cdv A outer s H vs Q E hr h => by
    obtain ⟨a, v, u, rfl, ha, q⟩ := h
    refine ⟨_, (pss_cons (ps_ost (pv 0) (pv 1))
      (pss_one (ps_ost (pv 0) (pv 2)))), ?_⟩
    exact ⟨v, rfl, .ref a, rfl, a, AA.TooMany, rfl, T.e_TooMany.oex, T.a_TooMany_what, .inl ⟨ha, fun dx hd hne => ⟨u, rfl, .ref a, rfl, a, AA.TooMany, rfl, T.e_TooMany.oex, T.a_TooMany_most, .inr ⟨dx, _, upd_same, (upd_ne hne).trans upd_same, by show 1 ≤ 900; decide, q dx hd hne⟩⟩⟩⟩
theorem ok_NotAlike___init (T : Txt K mg AA) {f : Addr} {fd : FuncData} (F : Fun K "__init__" "NotAlike.__init__" s_NotAlike___init f fd) (hb : Binds K fd p_NotAlike___init []) : FnOk P w K mg base CX0 1 f fd p_NotAlike___init (spErr2 AA.NotAlike "one" "other") :=
  F.ok sc_NotAlike___init (fun vs H Q E h => by
    obtain ⟨a, v, u, rfl, _⟩ := h
    rfl) fun cdv A outer s H vs Q E hr h => by
    obtain ⟨a, v, u, rfl, ha, q⟩ := h
    refine ⟨_, (pss_cons (ps_ost (pv 0) (pv 1))
      (pss_one (ps_ost (pv 0) (pv 2)))), ?_⟩
    exact ⟨v, rfl, .ref a, rfl, a, AA.NotAlike, rfl, T.e_NotAlike.oex, T.a_NotAlike_one, .inl ⟨ha, fun dx hd hne => ⟨u, rfl, .ref a, rfl, a, AA.NotAlike, rfl, T.e_NotAlike.oex, T.a_NotAlike_other, .inr ⟨dx, _, upd_same, (upd_ne hne).trans upd_same, by show 1 ≤ 900; decide, q dx hd hne⟩⟩⟩⟩
theorem ok_law_by_place (T : Txt K mg AA) : Pr P w K mg base "_law_by_place" s_law_by_place p_law_by_place 3 (spBuild AA) := by
  refine pr_mk T.f_law_by_place sc_law_by_place (fun vs H Q E h => ?_) (fun f cdv A outer s H vs Q E hr h => ?_)
  · obtain ⟨a, b, rfl, _⟩ := h
    rfl
  · obtain ⟨a, b, rfl, q⟩ := h
    refine ⟨_, (pss_cons (ps_set (i := 2) sc_law_by_place.nd rfl (.inl rfl) (pe_lst (pa_cons (pmkE T.m_InvalidName T.t_InvalidName PySem.F.excBase_ValueError (fun _ _ F b => ok_InvalidName___init T F b) hr (pa_cons (pv 0) pa_nil)) (pa_cons (pmkE T.m_InvalidNumber T.t_InvalidNumber PySem.F.excBase_ValueError (fun _ _ F b => ok_InvalidNumber___init T F b) hr (pa_cons (pv 0) pa_nil)) (pa_cons (pmkE T.m_InvalidText T.t_InvalidText PySem.F.excBase_ValueError (fun _ _ F b => ok_InvalidText___init T F b) hr (pa_cons (pv 0) pa_nil)) (pa_cons (pmkE T.m_InvalidCircle T.t_InvalidCircle PySem.F.excBase_ValueError (fun _ _ F b => ok_InvalidCircle___init T F b) hr (pa_cons (pv 0) pa_nil)) (pa_cons (pmkE T.m_InvalidTie T.t_InvalidTie PySem.F.excBase_ValueError (fun _ _ F b => ok_InvalidTie___init T F b) hr (pa_cons (pv 0) pa_nil)) (pa_cons (pmkE T.m_InvalidParting T.t_InvalidParting PySem.F.excBase_ValueError (fun _ _ F b => ok_InvalidParting___init T F b) hr (pa_cons (pv 0) pa_nil)) (pa_cons (pmkE T.m_InvalidCase T.t_InvalidCase PySem.F.excBase_ValueError (fun _ _ F b => ok_InvalidCase___init T F b) hr (pa_cons (pv 0) pa_nil)) pa_nil)))))))))
      (pss_cons (ps_set (i := 2) sc_law_by_place.nd rfl (.inl rfl) (pe_op op_cat (pv 2) (pe_lst (pa_cons (pmkE T.m_InvalidGrant T.t_InvalidGrant PySem.F.excBase_ValueError (fun _ _ F b => ok_InvalidGrant___init T F b) hr (pa_cons (pv 0) pa_nil)) (pa_cons (pmkE T.m_InvalidBan T.t_InvalidBan PySem.F.excBase_ValueError (fun _ _ F b => ok_InvalidBan___init T F b) hr (pa_cons (pv 0) pa_nil)) (pa_cons (pmkE T.m_InvalidShare T.t_InvalidShare PySem.F.excBase_ValueError (fun _ _ F b => ok_InvalidShare___init T F b) hr (pa_cons (pv 0) pa_nil)) (pa_cons (pmkE T.m_InvalidSaying T.t_InvalidSaying PySem.F.excBase_ValueError (fun _ _ F b => ok_InvalidSaying___init T F b) hr (pa_cons (pv 0) pa_nil)) (pa_cons (pmkE T.m_InvalidLog T.t_InvalidLog PySem.F.excBase_ValueError (fun _ _ F b => ok_InvalidLog___init T F b) hr (pa_cons (pv 0) pa_nil)) (pa_cons (pmkE T.m_InvalidLot T.t_InvalidLot PySem.F.excBase_ValueError (fun _ _ F b => ok_InvalidLot___init T F b) hr (pa_cons (pv 0) pa_nil)) (pa_cons (pe_exc0 PySem.F.excBase_ValueError T.z_InvalidEyes.exc T.m_InvalidEyes T.z_InvalidEyes.kC (by rfl)) pa_nil))))))))))
      (pss_cons (ps_set (i := 2) sc_law_by_place.nd rfl (.inl rfl) (pe_op op_cat (pv 2) (pe_lst (pa_cons (pmkE T.m_InvalidDeed T.t_InvalidDeed PySem.F.excBase_ValueError (fun _ _ F b => ok_InvalidDeed___init T F b) hr (pa_cons (pv 0) pa_nil)) (pa_cons (pe_exc0 PySem.F.excBase_ValueError T.z_InvalidQuestion.exc T.m_InvalidQuestion T.z_InvalidQuestion.kC (by rfl)) (pa_cons (pmkE T.m_TooMany T.t_TooMany PySem.F.excBase_ValueError (fun _ _ F b => ok_TooMany___init T F b) hr (pa_cons (pv 0) (pa_cons (pv 1) pa_nil))) (pa_cons (pmkE T.m_NotAlike T.t_NotAlike PySem.F.excBase_ValueError (fun _ _ F b => ok_NotAlike___init T F b) hr (pa_cons (pv 0) (pa_cons (pv 1) pa_nil))) (pa_cons (pmkE T.m_CommonShown T.t_CommonShown PySem.F.excBase_ValueError (fun _ _ F b => ok_CommonShown___init T F b) hr (pa_cons (pv 0) pa_nil)) (pa_cons (pe_exc0 PySem.F.excBase_ValueError T.z_NotPooled.exc T.m_NotPooled T.z_NotPooled.kC (by rfl)) pa_nil)))))))))
      (pss_cons (ps_set (i := 2) sc_law_by_place.nd rfl (.inl rfl) (pe_op op_cat (pv 2) (pe_lst (pa_cons (pe_exc0 PySem.F.excBase_ValueError T.z_UnlikeSketches.exc T.m_UnlikeSketches T.z_UnlikeSketches.kC (by rfl)) (pa_cons (pmkE T.m_NotSafe T.t_NotSafe PySem.F.excBase_ValueError (fun _ _ F b => ok_NotSafe___init T F b) hr (pa_cons (pv 0) pa_nil)) (pa_cons (pmkE T.m_CannotStand T.t_CannotStand PySem.F.excBase_ValueError (fun _ _ F b => ok_CannotStand___init T F b) hr (pa_cons (pv 0) pa_nil)) (pa_cons (pmkE T.m_NameTaken T.t_NameTaken PySem.F.excBase_ValueError (fun _ _ F b => ok_NameTaken___init T F b) hr (pa_cons (pv 0) pa_nil)) (pa_cons (pmkE T.m_InUse T.t_InUse PySem.F.excBase_ValueError (fun _ _ F b => ok_InUse___init T F b) hr (pa_cons (pv 0) pa_nil)) (pa_cons (pmkE T.m_UnknownName T.t_UnknownName PySem.F.excBase_LookupError (fun _ _ F b => ok_UnknownName___init T F b) hr (pa_cons (pv 0) pa_nil)) (pa_cons (pmkE T.m_UnknownEye T.t_UnknownEye PySem.F.excBase_LookupError (fun _ _ F b => ok_UnknownEye___init T F b) hr (pa_cons (pv 0) pa_nil)) pa_nil))))))))))
      (pss_one (ps_ret (pe_op op_cat (pv 2) (pe_lst (pa_cons (pmkE T.m_UnknownGrant T.t_UnknownGrant PySem.F.excBase_LookupError (fun _ _ F b => ok_UnknownGrant___init T F b) hr (pa_cons (pv 0) pa_nil)) (pa_cons (pmkE T.m_UnknownBan T.t_UnknownBan PySem.F.excBase_LookupError (fun _ _ F b => ok_UnknownBan___init T F b) hr (pa_cons (pv 0) pa_nil)) (pa_cons (pmkE T.m_UnknownShare T.t_UnknownShare PySem.F.excBase_LookupError (fun _ _ F b => ok_UnknownShare___init T F b) hr (pa_cons (pv 0) pa_nil)) (pa_cons (pmkE T.m_UnknownSaying T.t_UnknownSaying PySem.F.excBase_LookupError (fun _ _ F b => ok_UnknownSaying___init T F b) hr (pa_cons (pv 0) pa_nil)) (pa_cons (pe_exc0 PySem.F.excBase_IndexError T.z_NothingLeft.exc T.m_NothingLeft T.z_NothingLeft.kC (by rfl)) pa_nil))))))))))))), ?_⟩
    refine ⟨_, rfl, by show 1 ≤ 1000; decide, fun a1 na1 => ⟨a1, _, rfl, upd_same, fun d1 nd1 ne1 => ?_⟩⟩
    rw [upd_ne ne1] at nd1
    refine ⟨rfl, d1, _, upd_same, (upd_ne ne1).trans upd_same, nd1, ?_⟩
    rw [made_to ne1]
    have e1 := (Ex.new (o := ExD a1 AA.InvalidName d1) na1).trans (Ex.new (o := .xd [(Str.ofString "value", a)]) ((upd_ne ne1).trans nd1))
    have h1 : ErrV (upd (upd H a1 (ExD a1 AA.InvalidName d1)) d1 (.xd [(Str.ofString "value", a)])) (.ref a1) AA.InvalidName [(Str.ofString "value", a)] := ⟨a1, rfl, .inl ⟨d1, isX_D ((upd_ne (Ne.symm ne1)).trans upd_same), upd_same⟩⟩
    generalize upd (upd H a1 _) d1 _ = H1 at e1 h1 ⊢
    generalize V.ref a1 = u1 at h1 ⊢
    clear na1 nd1 ne1
    refine ⟨_, rfl, by show 1 ≤ 1000; decide, fun a2 na2 => ⟨a2, _, rfl, upd_same, fun d2 nd2 ne2 => ?_⟩⟩
    rw [upd_ne ne2] at nd2
    refine ⟨rfl, d2, _, upd_same, (upd_ne ne2).trans upd_same, nd2, ?_⟩
    rw [made_to ne2]
    have e2 := (Ex.new (o := ExD a2 AA.InvalidNumber d2) na2).trans (Ex.new (o := .xd [(Str.ofString "value", a)]) ((upd_ne ne2).trans nd2))
    have h2 : ErrV (upd (upd H1 a2 (ExD a2 AA.InvalidNumber d2)) d2 (.xd [(Str.ofString "value", a)])) (.ref a2) AA.InvalidNumber [(Str.ofString "value", a)] := ⟨a2, rfl, .inl ⟨d2, isX_D ((upd_ne (Ne.symm ne2)).trans upd_same), upd_same⟩⟩
    generalize upd (upd H1 a2 _) d2 _ = H2 at e2 h2 ⊢
    generalize V.ref a2 = u2 at h2 ⊢
    clear na2 nd2 ne2
    refine ⟨_, rfl, by show 1 ≤ 1000; decide, fun a3 na3 => ⟨a3, _, rfl, upd_same, fun d3 nd3 ne3 => ?_⟩⟩
    rw [upd_ne ne3] at nd3
    refine ⟨rfl, d3, _, upd_same, (upd_ne ne3).trans upd_same, nd3, ?_⟩
    rw [made_to ne3]
    have e3 := (Ex.new (o := ExD a3 AA.InvalidText d3) na3).trans (Ex.new (o := .xd [(Str.ofString "at", a)]) ((upd_ne ne3).trans nd3))
    have h3 : ErrV (upd (upd H2 a3 (ExD a3 AA.InvalidText d3)) d3 (.xd [(Str.ofString "at", a)])) (.ref a3) AA.InvalidText [(Str.ofString "at", a)] := ⟨a3, rfl, .inl ⟨d3, isX_D ((upd_ne (Ne.symm ne3)).trans upd_same), upd_same⟩⟩
    generalize upd (upd H2 a3 _) d3 _ = H3 at e3 h3 ⊢
    generalize V.ref a3 = u3 at h3 ⊢
    clear na3 nd3 ne3
    refine ⟨_, rfl, by show 1 ≤ 1000; decide, fun a4 na4 => ⟨a4, _, rfl, upd_same, fun d4 nd4 ne4 => ?_⟩⟩
    rw [upd_ne ne4] at nd4
    refine ⟨rfl, d4, _, upd_same, (upd_ne ne4).trans upd_same, nd4, ?_⟩
    rw [made_to ne4]
    have e4 := (Ex.new (o := ExD a4 AA.InvalidCircle d4) na4).trans (Ex.new (o := .xd [(Str.ofString "at", a)]) ((upd_ne ne4).trans nd4))
    have h4 : ErrV (upd (upd H3 a4 (ExD a4 AA.InvalidCircle d4)) d4 (.xd [(Str.ofString "at", a)])) (.ref a4) AA.InvalidCircle [(Str.ofString "at", a)] := ⟨a4, rfl, .inl ⟨d4, isX_D ((upd_ne (Ne.symm ne4)).trans upd_same), upd_same⟩⟩
    generalize upd (upd H3 a4 _) d4 _ = H4 at e4 h4 ⊢
    generalize V.ref a4 = u4 at h4 ⊢
    clear na4 nd4 ne4
    refine ⟨_, rfl, by show 1 ≤ 1000; decide, fun a5 na5 => ⟨a5, _, rfl, upd_same, fun d5 nd5 ne5 => ?_⟩⟩
    rw [upd_ne ne5] at nd5
    refine ⟨rfl, d5, _, upd_same, (upd_ne ne5).trans upd_same, nd5, ?_⟩
    rw [made_to ne5]
    have e5 := (Ex.new (o := ExD a5 AA.InvalidTie d5) na5).trans (Ex.new (o := .xd [(Str.ofString "at", a)]) ((upd_ne ne5).trans nd5))
    have h5 : ErrV (upd (upd H4 a5 (ExD a5 AA.InvalidTie d5)) d5 (.xd [(Str.ofString "at", a)])) (.ref a5) AA.InvalidTie [(Str.ofString "at", a)] := ⟨a5, rfl, .inl ⟨d5, isX_D ((upd_ne (Ne.symm ne5)).trans upd_same), upd_same⟩⟩
    generalize upd (upd H4 a5 _) d5 _ = H5 at e5 h5 ⊢
    generalize V.ref a5 = u5 at h5 ⊢
    clear na5 nd5 ne5
    refine ⟨_, rfl, by show 1 ≤ 1000; decide, fun a6 na6 => ⟨a6, _, rfl, upd_same, fun d6 nd6 ne6 => ?_⟩⟩
    rw [upd_ne ne6] at nd6
    refine ⟨rfl, d6, _, upd_same, (upd_ne ne6).trans upd_same, nd6, ?_⟩
    rw [made_to ne6]
    have e6 := (Ex.new (o := ExD a6 AA.InvalidParting d6) na6).trans (Ex.new (o := .xd [(Str.ofString "value", a)]) ((upd_ne ne6).trans nd6))
    have h6 : ErrV (upd (upd H5 a6 (ExD a6 AA.InvalidParting d6)) d6 (.xd [(Str.ofString "value", a)])) (.ref a6) AA.InvalidParting [(Str.ofString "value", a)] := ⟨a6, rfl, .inl ⟨d6, isX_D ((upd_ne (Ne.symm ne6)).trans upd_same), upd_same⟩⟩
    generalize upd (upd H5 a6 _) d6 _ = H6 at e6 h6 ⊢
    generalize V.ref a6 = u6 at h6 ⊢
    clear na6 nd6 ne6
    refine ⟨_, rfl, by show 1 ≤ 1000; decide, fun a7 na7 => ⟨a7, _, rfl, upd_same, fun d7 nd7 ne7 => ?_⟩⟩
    rw [upd_ne ne7] at nd7
    refine ⟨rfl, d7, _, upd_same, (upd_ne ne7).trans upd_same, nd7, ?_⟩
    rw [made_to ne7]
    have e7 := (Ex.new (o := ExD a7 AA.InvalidCase d7) na7).trans (Ex.new (o := .xd [(Str.ofString "value", a)]) ((upd_ne ne7).trans nd7))
    have h7 : ErrV (upd (upd H6 a7 (ExD a7 AA.InvalidCase d7)) d7 (.xd [(Str.ofString "value", a)])) (.ref a7) AA.InvalidCase [(Str.ofString "value", a)] := ⟨a7, rfl, .inl ⟨d7, isX_D ((upd_ne (Ne.symm ne7)).trans upd_same), upd_same⟩⟩
    generalize upd (upd H6 a7 _) d7 _ = H7 at e7 h7 ⊢
    generalize V.ref a7 = u7 at h7 ⊢
    clear na7 nd7 ne7
    refine ⟨by show 7 ≤ sizeLine; decide, fun L0 hL0 => ?_⟩
    have x0 := Ex.new (o := .lst [u1, u2, u3, u4, u5, u6, u7]) hL0
    have g0 := upd_same (H := H7) (a := L0) (o := HO.lst [u1, u2, u3, u4, u5, u6, u7])
    have f0 : ErrsAt (upd H7 L0 (.lst [u1, u2, u3, u4, u5, u6, u7])) [u1, u2, u3, u4, u5, u6, u7] _ := .cons (h1.mono ((e2).trans ((e3).trans ((e4).trans ((e5).trans ((e6).trans ((e7).trans (x0)))))))) (.cons (h2.mono ((e3).trans ((e4).trans ((e5).trans ((e6).trans ((e7).trans (x0))))))) (.cons (h3.mono ((e4).trans ((e5).trans ((e6).trans ((e7).trans (x0)))))) (.cons (h4.mono ((e5).trans ((e6).trans ((e7).trans (x0))))) (.cons (h5.mono ((e6).trans ((e7).trans (x0)))) (.cons (h6.mono ((e7).trans (x0))) (.cons (h7.mono (x0)) (.nil)))))))
    generalize upd H7 L0 _ = G0 at x0 g0 f0 ⊢
    have y0 := (e1).trans ((e2).trans ((e3).trans ((e4).trans ((e5).trans ((e6).trans ((e7).trans (x0)))))))
    have F0 := f0
    have P0 := g0
    have Y0 := y0
    generalize G0 = J0 at *
    refine ⟨_, rfl, ?_⟩
    refine ⟨_, rfl, by show 1 ≤ 1000; decide, fun a8 na8 => ⟨a8, _, rfl, upd_same, fun d8 nd8 ne8 => ?_⟩⟩
    rw [upd_ne ne8] at nd8
    refine ⟨rfl, d8, _, upd_same, (upd_ne ne8).trans upd_same, nd8, ?_⟩
    rw [made_to ne8]
    have e8 := (Ex.new (o := ExD a8 AA.InvalidGrant d8) na8).trans (Ex.new (o := .xd [(Str.ofString "at", a)]) ((upd_ne ne8).trans nd8))
    have h8 : ErrV (upd (upd J0 a8 (ExD a8 AA.InvalidGrant d8)) d8 (.xd [(Str.ofString "at", a)])) (.ref a8) AA.InvalidGrant [(Str.ofString "at", a)] := ⟨a8, rfl, .inl ⟨d8, isX_D ((upd_ne (Ne.symm ne8)).trans upd_same), upd_same⟩⟩
    generalize upd (upd J0 a8 _) d8 _ = H8 at e8 h8 ⊢
    generalize V.ref a8 = u8 at h8 ⊢
    clear na8 nd8 ne8
    refine ⟨_, rfl, by show 1 ≤ 1000; decide, fun a9 na9 => ⟨a9, _, rfl, upd_same, fun d9 nd9 ne9 => ?_⟩⟩
    rw [upd_ne ne9] at nd9
    refine ⟨rfl, d9, _, upd_same, (upd_ne ne9).trans upd_same, nd9, ?_⟩
    rw [made_to ne9]
    have e9 := (Ex.new (o := ExD a9 AA.InvalidBan d9) na9).trans (Ex.new (o := .xd [(Str.ofString "at", a)]) ((upd_ne ne9).trans nd9))
    have h9 : ErrV (upd (upd H8 a9 (ExD a9 AA.InvalidBan d9)) d9 (.xd [(Str.ofString "at", a)])) (.ref a9) AA.InvalidBan [(Str.ofString "at", a)] := ⟨a9, rfl, .inl ⟨d9, isX_D ((upd_ne (Ne.symm ne9)).trans upd_same), upd_same⟩⟩
    generalize upd (upd H8 a9 _) d9 _ = H9 at e9 h9 ⊢
    generalize V.ref a9 = u9 at h9 ⊢
    clear na9 nd9 ne9
    refine ⟨_, rfl, by show 1 ≤ 1000; decide, fun a10 na10 => ⟨a10, _, rfl, upd_same, fun d10 nd10 ne10 => ?_⟩⟩
    rw [upd_ne ne10] at nd10
    refine ⟨rfl, d10, _, upd_same, (upd_ne ne10).trans upd_same, nd10, ?_⟩
    rw [made_to ne10]
    have e10 := (Ex.new (o := ExD a10 AA.InvalidShare d10) na10).trans (Ex.new (o := .xd [(Str.ofString "at", a)]) ((upd_ne ne10).trans nd10))
    have h10 : ErrV (upd (upd H9 a10 (ExD a10 AA.InvalidShare d10)) d10 (.xd [(Str.ofString "at", a)])) (.ref a10) AA.InvalidShare [(Str.ofString "at", a)] := ⟨a10, rfl, .inl ⟨d10, isX_D ((upd_ne (Ne.symm ne10)).trans upd_same), upd_same⟩⟩
    generalize upd (upd H9 a10 _) d10 _ = H10 at e10 h10 ⊢
    generalize V.ref a10 = u10 at h10 ⊢
    clear na10 nd10 ne10
    refine ⟨_, rfl, by show 1 ≤ 1000; decide, fun a11 na11 => ⟨a11, _, rfl, upd_same, fun d11 nd11 ne11 => ?_⟩⟩
    rw [upd_ne ne11] at nd11
    refine ⟨rfl, d11, _, upd_same, (upd_ne ne11).trans upd_same, nd11, ?_⟩
    rw [made_to ne11]
    have e11 := (Ex.new (o := ExD a11 AA.InvalidSaying d11) na11).trans (Ex.new (o := .xd [(Str.ofString "at", a)]) ((upd_ne ne11).trans nd11))
    have h11 : ErrV (upd (upd H10 a11 (ExD a11 AA.InvalidSaying d11)) d11 (.xd [(Str.ofString "at", a)])) (.ref a11) AA.InvalidSaying [(Str.ofString "at", a)] := ⟨a11, rfl, .inl ⟨d11, isX_D ((upd_ne (Ne.symm ne11)).trans upd_same), upd_same⟩⟩
    generalize upd (upd H10 a11 _) d11 _ = H11 at e11 h11 ⊢
    generalize V.ref a11 = u11 at h11 ⊢
    clear na11 nd11 ne11
    refine ⟨_, rfl, by show 1 ≤ 1000; decide, fun a12 na12 => ⟨a12, _, rfl, upd_same, fun d12 nd12 ne12 => ?_⟩⟩
    rw [upd_ne ne12] at nd12
    refine ⟨rfl, d12, _, upd_same, (upd_ne ne12).trans upd_same, nd12, ?_⟩
    rw [made_to ne12]
    have e12 := (Ex.new (o := ExD a12 AA.InvalidLog d12) na12).trans (Ex.new (o := .xd [(Str.ofString "at", a)]) ((upd_ne ne12).trans nd12))
    have h12 : ErrV (upd (upd H11 a12 (ExD a12 AA.InvalidLog d12)) d12 (.xd [(Str.ofString "at", a)])) (.ref a12) AA.InvalidLog [(Str.ofString "at", a)] := ⟨a12, rfl, .inl ⟨d12, isX_D ((upd_ne (Ne.symm ne12)).trans upd_same), upd_same⟩⟩
    generalize upd (upd H11 a12 _) d12 _ = H12 at e12 h12 ⊢
    generalize V.ref a12 = u12 at h12 ⊢
    clear na12 nd12 ne12
    refine ⟨_, rfl, by show 1 ≤ 1000; decide, fun a13 na13 => ⟨a13, _, rfl, upd_same, fun d13 nd13 ne13 => ?_⟩⟩
    rw [upd_ne ne13] at nd13
    refine ⟨rfl, d13, _, upd_same, (upd_ne ne13).trans upd_same, nd13, ?_⟩
    rw [made_to ne13]
    have e13 := (Ex.new (o := ExD a13 AA.InvalidLot d13) na13).trans (Ex.new (o := .xd [(Str.ofString "at", a)]) ((upd_ne ne13).trans nd13))
    have h13 : ErrV (upd (upd H12 a13 (ExD a13 AA.InvalidLot d13)) d13 (.xd [(Str.ofString "at", a)])) (.ref a13) AA.InvalidLot [(Str.ofString "at", a)] := ⟨a13, rfl, .inl ⟨d13, isX_D ((upd_ne (Ne.symm ne13)).trans upd_same), upd_same⟩⟩
    generalize upd (upd H12 a13 _) d13 _ = H13 at e13 h13 ⊢
    generalize V.ref a13 = u13 at h13 ⊢
    clear na13 nd13 ne13
    refine fun a14 na14 => ?_
    have e14 := Ex.new (o := ExO (.ref AA.InvalidEyes) a14) na14
    have h14 : ErrV (upd H13 a14 (ExO (.ref AA.InvalidEyes) a14)) (.ref a14) AA.InvalidEyes [] := ⟨a14, rfl, .inr ⟨isX_O upd_same, rfl⟩⟩
    generalize upd H13 a14 _ = H14 at e14 h14 ⊢
    generalize V.ref a14 = u14 at h14 ⊢
    clear na14
    refine ⟨by show 7 ≤ sizeLine; decide, fun L1 hL1 => ?_⟩
    have x1 := Ex.new (o := .lst [u8, u9, u10, u11, u12, u13, u14]) hL1
    have g1 := upd_same (H := H14) (a := L1) (o := HO.lst [u8, u9, u10, u11, u12, u13, u14])
    have f1 : ErrsAt (upd H14 L1 (.lst [u8, u9, u10, u11, u12, u13, u14])) [u8, u9, u10, u11, u12, u13, u14] _ := .cons (h8.mono ((e9).trans ((e10).trans ((e11).trans ((e12).trans ((e13).trans ((e14).trans (x1)))))))) (.cons (h9.mono ((e10).trans ((e11).trans ((e12).trans ((e13).trans ((e14).trans (x1))))))) (.cons (h10.mono ((e11).trans ((e12).trans ((e13).trans ((e14).trans (x1)))))) (.cons (h11.mono ((e12).trans ((e13).trans ((e14).trans (x1))))) (.cons (h12.mono ((e13).trans ((e14).trans (x1)))) (.cons (h13.mono ((e14).trans (x1))) (.cons (h14.mono (x1)) (.nil)))))))
    generalize upd H14 L1 _ = G1 at x1 g1 f1 ⊢
    have y1 := (e8).trans ((e9).trans ((e10).trans ((e11).trans ((e12).trans ((e13).trans ((e14).trans (x1)))))))
    refine ⟨L0, L1, _, _, rfl, rfl, y1 _ _ P0, g1, by show 7 + 7 ≤ sizeLine; decide, fun M1 hM1 => ?_⟩
    have F1 := ((F0.mono y1).append f1).mono (Ex.new (o := .lst ([u1, u2, u3, u4, u5, u6, u7] ++ [u8, u9, u10, u11, u12, u13, u14])) hM1)
    have P1 := upd_same (H := G1) (a := M1) (o := HO.lst ([u1, u2, u3, u4, u5, u6, u7] ++ [u8, u9, u10, u11, u12, u13, u14]))
    have Y1 := Y0.trans (y1.trans (Ex.new (o := .lst ([u1, u2, u3, u4, u5, u6, u7] ++ [u8, u9, u10, u11, u12, u13, u14])) hM1))
    generalize upd G1 M1 _ = J1 at F1 P1 Y1 ⊢
    refine ⟨_, rfl, ?_⟩
    refine ⟨_, rfl, by show 1 ≤ 1000; decide, fun a15 na15 => ⟨a15, _, rfl, upd_same, fun d15 nd15 ne15 => ?_⟩⟩
    rw [upd_ne ne15] at nd15
    refine ⟨rfl, d15, _, upd_same, (upd_ne ne15).trans upd_same, nd15, ?_⟩
    rw [made_to ne15]
    have e15 := (Ex.new (o := ExD a15 AA.InvalidDeed d15) na15).trans (Ex.new (o := .xd [(Str.ofString "at", a)]) ((upd_ne ne15).trans nd15))
    have h15 : ErrV (upd (upd J1 a15 (ExD a15 AA.InvalidDeed d15)) d15 (.xd [(Str.ofString "at", a)])) (.ref a15) AA.InvalidDeed [(Str.ofString "at", a)] := ⟨a15, rfl, .inl ⟨d15, isX_D ((upd_ne (Ne.symm ne15)).trans upd_same), upd_same⟩⟩
    generalize upd (upd J1 a15 _) d15 _ = H15 at e15 h15 ⊢
    generalize V.ref a15 = u15 at h15 ⊢
    clear na15 nd15 ne15
    refine fun a16 na16 => ?_
    have e16 := Ex.new (o := ExO (.ref AA.InvalidQuestion) a16) na16
    have h16 : ErrV (upd H15 a16 (ExO (.ref AA.InvalidQuestion) a16)) (.ref a16) AA.InvalidQuestion [] := ⟨a16, rfl, .inr ⟨isX_O upd_same, rfl⟩⟩
    generalize upd H15 a16 _ = H16 at e16 h16 ⊢
    generalize V.ref a16 = u16 at h16 ⊢
    clear na16
    refine ⟨_, rfl, _, rfl, by show 2 ≤ 1000; decide, fun a17 na17 => ⟨a17, _, _, rfl, upd_same, fun d17 nd17 ne17 => ?_⟩⟩
    rw [upd_ne ne17] at nd17
    refine ⟨rfl, d17, _, (upd_ne ne17.symm).trans upd_same, upd_same, nd17, ?_⟩
    rw [made_to2 ne17]
    have e17 := (Ex.new (o := ExD a17 AA.TooMany d17) na17).trans (Ex.new (o := .xd [(Str.ofString "most", b), (Str.ofString "what", a)]) ((upd_ne ne17).trans nd17))
    have h17 : ErrV (upd (upd H16 a17 (ExD a17 AA.TooMany d17)) d17 (.xd [(Str.ofString "most", b), (Str.ofString "what", a)])) (.ref a17) AA.TooMany [(Str.ofString "most", b), (Str.ofString "what", a)] := ⟨a17, rfl, .inl ⟨d17, isX_D ((upd_ne (Ne.symm ne17)).trans upd_same), upd_same⟩⟩
    generalize upd (upd H16 a17 _) d17 _ = H17 at e17 h17 ⊢
    generalize V.ref a17 = u17 at h17 ⊢
    clear na17 nd17 ne17
    refine ⟨_, rfl, _, rfl, by show 2 ≤ 1000; decide, fun a18 na18 => ⟨a18, _, _, rfl, upd_same, fun d18 nd18 ne18 => ?_⟩⟩
    rw [upd_ne ne18] at nd18
    refine ⟨rfl, d18, _, (upd_ne ne18.symm).trans upd_same, upd_same, nd18, ?_⟩
    rw [made_to2 ne18]
    have e18 := (Ex.new (o := ExD a18 AA.NotAlike d18) na18).trans (Ex.new (o := .xd [(Str.ofString "other", b), (Str.ofString "one", a)]) ((upd_ne ne18).trans nd18))
    have h18 : ErrV (upd (upd H17 a18 (ExD a18 AA.NotAlike d18)) d18 (.xd [(Str.ofString "other", b), (Str.ofString "one", a)])) (.ref a18) AA.NotAlike [(Str.ofString "other", b), (Str.ofString "one", a)] := ⟨a18, rfl, .inl ⟨d18, isX_D ((upd_ne (Ne.symm ne18)).trans upd_same), upd_same⟩⟩
    generalize upd (upd H17 a18 _) d18 _ = H18 at e18 h18 ⊢
    generalize V.ref a18 = u18 at h18 ⊢
    clear na18 nd18 ne18
    refine ⟨_, rfl, by show 1 ≤ 1000; decide, fun a19 na19 => ⟨a19, _, rfl, upd_same, fun d19 nd19 ne19 => ?_⟩⟩
    rw [upd_ne ne19] at nd19
    refine ⟨rfl, d19, _, upd_same, (upd_ne ne19).trans upd_same, nd19, ?_⟩
    rw [made_to ne19]
    have e19 := (Ex.new (o := ExD a19 AA.CommonShown d19) na19).trans (Ex.new (o := .xd [(Str.ofString "at", a)]) ((upd_ne ne19).trans nd19))
    have h19 : ErrV (upd (upd H18 a19 (ExD a19 AA.CommonShown d19)) d19 (.xd [(Str.ofString "at", a)])) (.ref a19) AA.CommonShown [(Str.ofString "at", a)] := ⟨a19, rfl, .inl ⟨d19, isX_D ((upd_ne (Ne.symm ne19)).trans upd_same), upd_same⟩⟩
    generalize upd (upd H18 a19 _) d19 _ = H19 at e19 h19 ⊢
    generalize V.ref a19 = u19 at h19 ⊢
    clear na19 nd19 ne19
    refine fun a20 na20 => ?_
    have e20 := Ex.new (o := ExO (.ref AA.NotPooled) a20) na20
    have h20 : ErrV (upd H19 a20 (ExO (.ref AA.NotPooled) a20)) (.ref a20) AA.NotPooled [] := ⟨a20, rfl, .inr ⟨isX_O upd_same, rfl⟩⟩
    generalize upd H19 a20 _ = H20 at e20 h20 ⊢
    generalize V.ref a20 = u20 at h20 ⊢
    clear na20
    refine ⟨by show 6 ≤ sizeLine; decide, fun L2 hL2 => ?_⟩
    have x2 := Ex.new (o := .lst [u15, u16, u17, u18, u19, u20]) hL2
    have g2 := upd_same (H := H20) (a := L2) (o := HO.lst [u15, u16, u17, u18, u19, u20])
    have f2 : ErrsAt (upd H20 L2 (.lst [u15, u16, u17, u18, u19, u20])) [u15, u16, u17, u18, u19, u20] _ := .cons (h15.mono ((e16).trans ((e17).trans ((e18).trans ((e19).trans ((e20).trans (x2))))))) (.cons (h16.mono ((e17).trans ((e18).trans ((e19).trans ((e20).trans (x2)))))) (.cons (h17.mono ((e18).trans ((e19).trans ((e20).trans (x2))))) (.cons (h18.mono ((e19).trans ((e20).trans (x2)))) (.cons (h19.mono ((e20).trans (x2))) (.cons (h20.mono (x2)) (.nil))))))
    generalize upd H20 L2 _ = G2 at x2 g2 f2 ⊢
    have y2 := (e15).trans ((e16).trans ((e17).trans ((e18).trans ((e19).trans ((e20).trans (x2))))))
    refine ⟨M1, L2, _, _, rfl, rfl, y2 _ _ P1, g2, by show 14 + 6 ≤ sizeLine; decide, fun M2 hM2 => ?_⟩
    have F2 := ((F1.mono y2).append f2).mono (Ex.new (o := .lst ([u1, u2, u3, u4, u5, u6, u7] ++ [u8, u9, u10, u11, u12, u13, u14] ++ [u15, u16, u17, u18, u19, u20])) hM2)
    have P2 := upd_same (H := G2) (a := M2) (o := HO.lst ([u1, u2, u3, u4, u5, u6, u7] ++ [u8, u9, u10, u11, u12, u13, u14] ++ [u15, u16, u17, u18, u19, u20]))
    have Y2 := Y1.trans (y2.trans (Ex.new (o := .lst ([u1, u2, u3, u4, u5, u6, u7] ++ [u8, u9, u10, u11, u12, u13, u14] ++ [u15, u16, u17, u18, u19, u20])) hM2))
    generalize upd G2 M2 _ = J2 at F2 P2 Y2 ⊢
    refine ⟨_, rfl, ?_⟩
    refine fun a21 na21 => ?_
    have e21 := Ex.new (o := ExO (.ref AA.UnlikeSketches) a21) na21
    have h21 : ErrV (upd J2 a21 (ExO (.ref AA.UnlikeSketches) a21)) (.ref a21) AA.UnlikeSketches [] := ⟨a21, rfl, .inr ⟨isX_O upd_same, rfl⟩⟩
    generalize upd J2 a21 _ = H21 at e21 h21 ⊢
    generalize V.ref a21 = u21 at h21 ⊢
    clear na21
    refine ⟨_, rfl, by show 1 ≤ 1000; decide, fun a22 na22 => ⟨a22, _, rfl, upd_same, fun d22 nd22 ne22 => ?_⟩⟩
    rw [upd_ne ne22] at nd22
    refine ⟨rfl, d22, _, upd_same, (upd_ne ne22).trans upd_same, nd22, ?_⟩
    rw [made_to ne22]
    have e22 := (Ex.new (o := ExD a22 AA.NotSafe d22) na22).trans (Ex.new (o := .xd [(Str.ofString "at", a)]) ((upd_ne ne22).trans nd22))
    have h22 : ErrV (upd (upd H21 a22 (ExD a22 AA.NotSafe d22)) d22 (.xd [(Str.ofString "at", a)])) (.ref a22) AA.NotSafe [(Str.ofString "at", a)] := ⟨a22, rfl, .inl ⟨d22, isX_D ((upd_ne (Ne.symm ne22)).trans upd_same), upd_same⟩⟩
    generalize upd (upd H21 a22 _) d22 _ = H22 at e22 h22 ⊢
    generalize V.ref a22 = u22 at h22 ⊢
    clear na22 nd22 ne22
    refine ⟨_, rfl, by show 1 ≤ 1000; decide, fun a23 na23 => ⟨a23, _, rfl, upd_same, fun d23 nd23 ne23 => ?_⟩⟩
    rw [upd_ne ne23] at nd23
    refine ⟨rfl, d23, _, upd_same, (upd_ne ne23).trans upd_same, nd23, ?_⟩
    rw [made_to ne23]
    have e23 := (Ex.new (o := ExD a23 AA.CannotStand d23) na23).trans (Ex.new (o := .xd [(Str.ofString "at", a)]) ((upd_ne ne23).trans nd23))
    have h23 : ErrV (upd (upd H22 a23 (ExD a23 AA.CannotStand d23)) d23 (.xd [(Str.ofString "at", a)])) (.ref a23) AA.CannotStand [(Str.ofString "at", a)] := ⟨a23, rfl, .inl ⟨d23, isX_D ((upd_ne (Ne.symm ne23)).trans upd_same), upd_same⟩⟩
    generalize upd (upd H22 a23 _) d23 _ = H23 at e23 h23 ⊢
    generalize V.ref a23 = u23 at h23 ⊢
    clear na23 nd23 ne23
    refine ⟨_, rfl, by show 1 ≤ 1000; decide, fun a24 na24 => ⟨a24, _, rfl, upd_same, fun d24 nd24 ne24 => ?_⟩⟩
    rw [upd_ne ne24] at nd24
    refine ⟨rfl, d24, _, upd_same, (upd_ne ne24).trans upd_same, nd24, ?_⟩
    rw [made_to ne24]
    have e24 := (Ex.new (o := ExD a24 AA.NameTaken d24) na24).trans (Ex.new (o := .xd [(Str.ofString "name", a)]) ((upd_ne ne24).trans nd24))
    have h24 : ErrV (upd (upd H23 a24 (ExD a24 AA.NameTaken d24)) d24 (.xd [(Str.ofString "name", a)])) (.ref a24) AA.NameTaken [(Str.ofString "name", a)] := ⟨a24, rfl, .inl ⟨d24, isX_D ((upd_ne (Ne.symm ne24)).trans upd_same), upd_same⟩⟩
    generalize upd (upd H23 a24 _) d24 _ = H24 at e24 h24 ⊢
    generalize V.ref a24 = u24 at h24 ⊢
    clear na24 nd24 ne24
    refine ⟨_, rfl, by show 1 ≤ 1000; decide, fun a25 na25 => ⟨a25, _, rfl, upd_same, fun d25 nd25 ne25 => ?_⟩⟩
    rw [upd_ne ne25] at nd25
    refine ⟨rfl, d25, _, upd_same, (upd_ne ne25).trans upd_same, nd25, ?_⟩
    rw [made_to ne25]
    have e25 := (Ex.new (o := ExD a25 AA.InUse d25) na25).trans (Ex.new (o := .xd [(Str.ofString "name", a)]) ((upd_ne ne25).trans nd25))
    have h25 : ErrV (upd (upd H24 a25 (ExD a25 AA.InUse d25)) d25 (.xd [(Str.ofString "name", a)])) (.ref a25) AA.InUse [(Str.ofString "name", a)] := ⟨a25, rfl, .inl ⟨d25, isX_D ((upd_ne (Ne.symm ne25)).trans upd_same), upd_same⟩⟩
    generalize upd (upd H24 a25 _) d25 _ = H25 at e25 h25 ⊢
    generalize V.ref a25 = u25 at h25 ⊢
    clear na25 nd25 ne25
    refine ⟨_, rfl, by show 1 ≤ 1000; decide, fun a26 na26 => ⟨a26, _, rfl, upd_same, fun d26 nd26 ne26 => ?_⟩⟩
    rw [upd_ne ne26] at nd26
    refine ⟨rfl, d26, _, upd_same, (upd_ne ne26).trans upd_same, nd26, ?_⟩
    rw [made_to ne26]
    have e26 := (Ex.new (o := ExD a26 AA.UnknownName d26) na26).trans (Ex.new (o := .xd [(Str.ofString "name", a)]) ((upd_ne ne26).trans nd26))
    have h26 : ErrV (upd (upd H25 a26 (ExD a26 AA.UnknownName d26)) d26 (.xd [(Str.ofString "name", a)])) (.ref a26) AA.UnknownName [(Str.ofString "name", a)] := ⟨a26, rfl, .inl ⟨d26, isX_D ((upd_ne (Ne.symm ne26)).trans upd_same), upd_same⟩⟩
    generalize upd (upd H25 a26 _) d26 _ = H26 at e26 h26 ⊢
    generalize V.ref a26 = u26 at h26 ⊢
    clear na26 nd26 ne26
    refine ⟨_, rfl, by show 1 ≤ 1000; decide, fun a27 na27 => ⟨a27, _, rfl, upd_same, fun d27 nd27 ne27 => ?_⟩⟩
    rw [upd_ne ne27] at nd27
    refine ⟨rfl, d27, _, upd_same, (upd_ne ne27).trans upd_same, nd27, ?_⟩
    rw [made_to ne27]
    have e27 := (Ex.new (o := ExD a27 AA.UnknownEye d27) na27).trans (Ex.new (o := .xd [(Str.ofString "name", a)]) ((upd_ne ne27).trans nd27))
    have h27 : ErrV (upd (upd H26 a27 (ExD a27 AA.UnknownEye d27)) d27 (.xd [(Str.ofString "name", a)])) (.ref a27) AA.UnknownEye [(Str.ofString "name", a)] := ⟨a27, rfl, .inl ⟨d27, isX_D ((upd_ne (Ne.symm ne27)).trans upd_same), upd_same⟩⟩
    generalize upd (upd H26 a27 _) d27 _ = H27 at e27 h27 ⊢
    generalize V.ref a27 = u27 at h27 ⊢
    clear na27 nd27 ne27
    refine ⟨by show 7 ≤ sizeLine; decide, fun L3 hL3 => ?_⟩
    have x3 := Ex.new (o := .lst [u21, u22, u23, u24, u25, u26, u27]) hL3
    have g3 := upd_same (H := H27) (a := L3) (o := HO.lst [u21, u22, u23, u24, u25, u26, u27])
    have f3 : ErrsAt (upd H27 L3 (.lst [u21, u22, u23, u24, u25, u26, u27])) [u21, u22, u23, u24, u25, u26, u27] _ := .cons (h21.mono ((e22).trans ((e23).trans ((e24).trans ((e25).trans ((e26).trans ((e27).trans (x3)))))))) (.cons (h22.mono ((e23).trans ((e24).trans ((e25).trans ((e26).trans ((e27).trans (x3))))))) (.cons (h23.mono ((e24).trans ((e25).trans ((e26).trans ((e27).trans (x3)))))) (.cons (h24.mono ((e25).trans ((e26).trans ((e27).trans (x3))))) (.cons (h25.mono ((e26).trans ((e27).trans (x3)))) (.cons (h26.mono ((e27).trans (x3))) (.cons (h27.mono (x3)) (.nil)))))))
    generalize upd H27 L3 _ = G3 at x3 g3 f3 ⊢
    have y3 := (e21).trans ((e22).trans ((e23).trans ((e24).trans ((e25).trans ((e26).trans ((e27).trans (x3)))))))
    refine ⟨M2, L3, _, _, rfl, rfl, y3 _ _ P2, g3, by show 20 + 7 ≤ sizeLine; decide, fun M3 hM3 => ?_⟩
    have F3 := ((F2.mono y3).append f3).mono (Ex.new (o := .lst ([u1, u2, u3, u4, u5, u6, u7] ++ [u8, u9, u10, u11, u12, u13, u14] ++ [u15, u16, u17, u18, u19, u20] ++ [u21, u22, u23, u24, u25, u26, u27])) hM3)
    have P3 := upd_same (H := G3) (a := M3) (o := HO.lst ([u1, u2, u3, u4, u5, u6, u7] ++ [u8, u9, u10, u11, u12, u13, u14] ++ [u15, u16, u17, u18, u19, u20] ++ [u21, u22, u23, u24, u25, u26, u27]))
    have Y3 := Y2.trans (y3.trans (Ex.new (o := .lst ([u1, u2, u3, u4, u5, u6, u7] ++ [u8, u9, u10, u11, u12, u13, u14] ++ [u15, u16, u17, u18, u19, u20] ++ [u21, u22, u23, u24, u25, u26, u27])) hM3))
    generalize upd G3 M3 _ = J3 at F3 P3 Y3 ⊢
    refine ⟨_, rfl, ?_⟩
    refine ⟨_, rfl, by show 1 ≤ 1000; decide, fun a28 na28 => ⟨a28, _, rfl, upd_same, fun d28 nd28 ne28 => ?_⟩⟩
    rw [upd_ne ne28] at nd28
    refine ⟨rfl, d28, _, upd_same, (upd_ne ne28).trans upd_same, nd28, ?_⟩
    rw [made_to ne28]
    have e28 := (Ex.new (o := ExD a28 AA.UnknownGrant d28) na28).trans (Ex.new (o := .xd [(Str.ofString "at", a)]) ((upd_ne ne28).trans nd28))
    have h28 : ErrV (upd (upd J3 a28 (ExD a28 AA.UnknownGrant d28)) d28 (.xd [(Str.ofString "at", a)])) (.ref a28) AA.UnknownGrant [(Str.ofString "at", a)] := ⟨a28, rfl, .inl ⟨d28, isX_D ((upd_ne (Ne.symm ne28)).trans upd_same), upd_same⟩⟩
    generalize upd (upd J3 a28 _) d28 _ = H28 at e28 h28 ⊢
    generalize V.ref a28 = u28 at h28 ⊢
    clear na28 nd28 ne28
    refine ⟨_, rfl, by show 1 ≤ 1000; decide, fun a29 na29 => ⟨a29, _, rfl, upd_same, fun d29 nd29 ne29 => ?_⟩⟩
    rw [upd_ne ne29] at nd29
    refine ⟨rfl, d29, _, upd_same, (upd_ne ne29).trans upd_same, nd29, ?_⟩
    rw [made_to ne29]
    have e29 := (Ex.new (o := ExD a29 AA.UnknownBan d29) na29).trans (Ex.new (o := .xd [(Str.ofString "at", a)]) ((upd_ne ne29).trans nd29))
    have h29 : ErrV (upd (upd H28 a29 (ExD a29 AA.UnknownBan d29)) d29 (.xd [(Str.ofString "at", a)])) (.ref a29) AA.UnknownBan [(Str.ofString "at", a)] := ⟨a29, rfl, .inl ⟨d29, isX_D ((upd_ne (Ne.symm ne29)).trans upd_same), upd_same⟩⟩
    generalize upd (upd H28 a29 _) d29 _ = H29 at e29 h29 ⊢
    generalize V.ref a29 = u29 at h29 ⊢
    clear na29 nd29 ne29
    refine ⟨_, rfl, by show 1 ≤ 1000; decide, fun a30 na30 => ⟨a30, _, rfl, upd_same, fun d30 nd30 ne30 => ?_⟩⟩
    rw [upd_ne ne30] at nd30
    refine ⟨rfl, d30, _, upd_same, (upd_ne ne30).trans upd_same, nd30, ?_⟩
    rw [made_to ne30]
    have e30 := (Ex.new (o := ExD a30 AA.UnknownShare d30) na30).trans (Ex.new (o := .xd [(Str.ofString "at", a)]) ((upd_ne ne30).trans nd30))
    have h30 : ErrV (upd (upd H29 a30 (ExD a30 AA.UnknownShare d30)) d30 (.xd [(Str.ofString "at", a)])) (.ref a30) AA.UnknownShare [(Str.ofString "at", a)] := ⟨a30, rfl, .inl ⟨d30, isX_D ((upd_ne (Ne.symm ne30)).trans upd_same), upd_same⟩⟩
    generalize upd (upd H29 a30 _) d30 _ = H30 at e30 h30 ⊢
    generalize V.ref a30 = u30 at h30 ⊢
    clear na30 nd30 ne30
    refine ⟨_, rfl, by show 1 ≤ 1000; decide, fun a31 na31 => ⟨a31, _, rfl, upd_same, fun d31 nd31 ne31 => ?_⟩⟩
    rw [upd_ne ne31] at nd31
    refine ⟨rfl, d31, _, upd_same, (upd_ne ne31).trans upd_same, nd31, ?_⟩
    rw [made_to ne31]
    have e31 := (Ex.new (o := ExD a31 AA.UnknownSaying d31) na31).trans (Ex.new (o := .xd [(Str.ofString "at", a)]) ((upd_ne ne31).trans nd31))
    have h31 : ErrV (upd (upd H30 a31 (ExD a31 AA.UnknownSaying d31)) d31 (.xd [(Str.ofString "at", a)])) (.ref a31) AA.UnknownSaying [(Str.ofString "at", a)] := ⟨a31, rfl, .inl ⟨d31, isX_D ((upd_ne (Ne.symm ne31)).trans upd_same), upd_same⟩⟩
    generalize upd (upd H30 a31 _) d31 _ = H31 at e31 h31 ⊢
    generalize V.ref a31 = u31 at h31 ⊢
    clear na31 nd31 ne31
    refine fun a32 na32 => ?_
    have e32 := Ex.new (o := ExO (.ref AA.NothingLeft) a32) na32
    have h32 : ErrV (upd H31 a32 (ExO (.ref AA.NothingLeft) a32)) (.ref a32) AA.NothingLeft [] := ⟨a32, rfl, .inr ⟨isX_O upd_same, rfl⟩⟩
    generalize upd H31 a32 _ = H32 at e32 h32 ⊢
    generalize V.ref a32 = u32 at h32 ⊢
    clear na32
    refine ⟨by show 5 ≤ sizeLine; decide, fun L4 hL4 => ?_⟩
    have x4 := Ex.new (o := .lst [u28, u29, u30, u31, u32]) hL4
    have g4 := upd_same (H := H32) (a := L4) (o := HO.lst [u28, u29, u30, u31, u32])
    have f4 : ErrsAt (upd H32 L4 (.lst [u28, u29, u30, u31, u32])) [u28, u29, u30, u31, u32] _ := .cons (h28.mono ((e29).trans ((e30).trans ((e31).trans ((e32).trans (x4)))))) (.cons (h29.mono ((e30).trans ((e31).trans ((e32).trans (x4))))) (.cons (h30.mono ((e31).trans ((e32).trans (x4)))) (.cons (h31.mono ((e32).trans (x4))) (.cons (h32.mono (x4)) (.nil)))))
    generalize upd H32 L4 _ = G4 at x4 g4 f4 ⊢
    have y4 := (e28).trans ((e29).trans ((e30).trans ((e31).trans ((e32).trans (x4)))))
    refine ⟨M3, L4, _, _, rfl, rfl, y4 _ _ P3, g4, by show 27 + 5 ≤ sizeLine; decide, fun M4 hM4 => ?_⟩
    have F4 := ((F3.mono y4).append f4).mono (Ex.new (o := .lst ([u1, u2, u3, u4, u5, u6, u7] ++ [u8, u9, u10, u11, u12, u13, u14] ++ [u15, u16, u17, u18, u19, u20] ++ [u21, u22, u23, u24, u25, u26, u27] ++ [u28, u29, u30, u31, u32])) hM4)
    have P4 := upd_same (H := G4) (a := M4) (o := HO.lst ([u1, u2, u3, u4, u5, u6, u7] ++ [u8, u9, u10, u11, u12, u13, u14] ++ [u15, u16, u17, u18, u19, u20] ++ [u21, u22, u23, u24, u25, u26, u27] ++ [u28, u29, u30, u31, u32]))
    have Y4 := Y3.trans (y4.trans (Ex.new (o := .lst ([u1, u2, u3, u4, u5, u6, u7] ++ [u8, u9, u10, u11, u12, u13, u14] ++ [u15, u16, u17, u18, u19, u20] ++ [u21, u22, u23, u24, u25, u26, u27] ++ [u28, u29, u30, u31, u32])) hM4))
    generalize upd G4 M4 _ = J4 at F4 P4 Y4 ⊢
    exact q _ _ _ Y4 P4 F4
theorem ok_law_by_name (T : Txt K mg AA) : Pr P w K mg base "_law_by_name" s_law_by_name p_law_by_name 3 (spBuild AA) := by
  refine pr_mk T.f_law_by_name sc_law_by_name (fun vs H Q E h => ?_) (fun f cdv A outer s H vs Q E hr h => ?_)
  · obtain ⟨a, b, rfl, _⟩ := h
    rfl
  · obtain ⟨a, b, rfl, q⟩ := h
    refine ⟨_, (pss_cons (ps_set (i := 2) sc_law_by_name.nd rfl (.inl rfl) (pe_lst (pa_cons (pmkEK T.m_InvalidName T.t_InvalidName PySem.F.excBase_ValueError (fun _ _ F b => ok_InvalidName___init T F b) kwe_InvalidName_value hr (pk_cons (pv 0) pk_nil)) (pa_cons (pmkEK T.m_InvalidNumber T.t_InvalidNumber PySem.F.excBase_ValueError (fun _ _ F b => ok_InvalidNumber___init T F b) kwe_InvalidNumber_value hr (pk_cons (pv 0) pk_nil)) (pa_cons (pmkEK T.m_InvalidText T.t_InvalidText PySem.F.excBase_ValueError (fun _ _ F b => ok_InvalidText___init T F b) kwe_InvalidText_at hr (pk_cons (pv 0) pk_nil)) (pa_cons (pmkEK T.m_InvalidCircle T.t_InvalidCircle PySem.F.excBase_ValueError (fun _ _ F b => ok_InvalidCircle___init T F b) kwe_InvalidCircle_at hr (pk_cons (pv 0) pk_nil)) (pa_cons (pmkEK T.m_InvalidTie T.t_InvalidTie PySem.F.excBase_ValueError (fun _ _ F b => ok_InvalidTie___init T F b) kwe_InvalidTie_at hr (pk_cons (pv 0) pk_nil)) pa_nil)))))))
      (pss_cons (ps_set (i := 2) sc_law_by_name.nd rfl (.inl rfl) (pe_op op_cat (pv 2) (pe_lst (pa_cons (pmkEK T.m_InvalidParting T.t_InvalidParting PySem.F.excBase_ValueError (fun _ _ F b => ok_InvalidParting___init T F b) kwe_InvalidParting_value hr (pk_cons (pv 0) pk_nil)) (pa_cons (pmkEK T.m_InvalidCase T.t_InvalidCase PySem.F.excBase_ValueError (fun _ _ F b => ok_InvalidCase___init T F b) kwe_InvalidCase_value hr (pk_cons (pv 0) pk_nil)) (pa_cons (pmkEK T.m_InvalidGrant T.t_InvalidGrant PySem.F.excBase_ValueError (fun _ _ F b => ok_InvalidGrant___init T F b) kwe_InvalidGrant_at hr (pk_cons (pv 0) pk_nil)) (pa_cons (pmkEK T.m_InvalidBan T.t_InvalidBan PySem.F.excBase_ValueError (fun _ _ F b => ok_InvalidBan___init T F b) kwe_InvalidBan_at hr (pk_cons (pv 0) pk_nil)) (pa_cons (pmkEK T.m_InvalidShare T.t_InvalidShare PySem.F.excBase_ValueError (fun _ _ F b => ok_InvalidShare___init T F b) kwe_InvalidShare_at hr (pk_cons (pv 0) pk_nil)) pa_nil))))))))
      (pss_cons (ps_set (i := 2) sc_law_by_name.nd rfl (.inl rfl) (pe_op op_cat (pv 2) (pe_lst (pa_cons (pmkEK T.m_InvalidSaying T.t_InvalidSaying PySem.F.excBase_ValueError (fun _ _ F b => ok_InvalidSaying___init T F b) kwe_InvalidSaying_at hr (pk_cons (pv 0) pk_nil)) (pa_cons (pmkEK T.m_InvalidLog T.t_InvalidLog PySem.F.excBase_ValueError (fun _ _ F b => ok_InvalidLog___init T F b) kwe_InvalidLog_at hr (pk_cons (pv 0) pk_nil)) (pa_cons (pmkEK T.m_InvalidLot T.t_InvalidLot PySem.F.excBase_ValueError (fun _ _ F b => ok_InvalidLot___init T F b) kwe_InvalidLot_at hr (pk_cons (pv 0) pk_nil)) (pa_cons (pe_exc0 PySem.F.excBase_ValueError T.z_InvalidEyes.exc T.m_InvalidEyes T.z_InvalidEyes.kC (by rfl)) (pa_cons (pmkEK T.m_InvalidDeed T.t_InvalidDeed PySem.F.excBase_ValueError (fun _ _ F b => ok_InvalidDeed___init T F b) kwe_InvalidDeed_at hr (pk_cons (pv 0) pk_nil)) pa_nil))))))))
      (pss_cons (ps_set (i := 2) sc_law_by_name.nd rfl (.inl rfl) (pe_op op_cat (pv 2) (pe_lst (pa_cons (pe_exc0 PySem.F.excBase_ValueError T.z_InvalidQuestion.exc T.m_InvalidQuestion T.z_InvalidQuestion.kC (by rfl)) (pa_cons (pmkEK T.m_TooMany T.t_TooMany PySem.F.excBase_ValueError (fun _ _ F b => ok_TooMany___init T F b) kwe_TooMany_most_what hr (pk_cons (pv 1) (pk_cons (pv 0) pk_nil))) (pa_cons (pmkEK T.m_NotAlike T.t_NotAlike PySem.F.excBase_ValueError (fun _ _ F b => ok_NotAlike___init T F b) kwe_NotAlike_other_one hr (pk_cons (pv 1) (pk_cons (pv 0) pk_nil))) (pa_cons (pmkEK T.m_CommonShown T.t_CommonShown PySem.F.excBase_ValueError (fun _ _ F b => ok_CommonShown___init T F b) kwe_CommonShown_at hr (pk_cons (pv 0) pk_nil)) (pa_cons (pe_exc0 PySem.F.excBase_ValueError T.z_NotPooled.exc T.m_NotPooled T.z_NotPooled.kC (by rfl)) pa_nil))))))))
      (pss_cons (ps_set (i := 2) sc_law_by_name.nd rfl (.inl rfl) (pe_op op_cat (pv 2) (pe_lst (pa_cons (pe_exc0 PySem.F.excBase_ValueError T.z_UnlikeSketches.exc T.m_UnlikeSketches T.z_UnlikeSketches.kC (by rfl)) (pa_cons (pmkEK T.m_NotSafe T.t_NotSafe PySem.F.excBase_ValueError (fun _ _ F b => ok_NotSafe___init T F b) kwe_NotSafe_at hr (pk_cons (pv 0) pk_nil)) (pa_cons (pmkEK T.m_CannotStand T.t_CannotStand PySem.F.excBase_ValueError (fun _ _ F b => ok_CannotStand___init T F b) kwe_CannotStand_at hr (pk_cons (pv 0) pk_nil)) (pa_cons (pmkEK T.m_NameTaken T.t_NameTaken PySem.F.excBase_ValueError (fun _ _ F b => ok_NameTaken___init T F b) kwe_NameTaken_name hr (pk_cons (pv 0) pk_nil)) (pa_cons (pmkEK T.m_InUse T.t_InUse PySem.F.excBase_ValueError (fun _ _ F b => ok_InUse___init T F b) kwe_InUse_name hr (pk_cons (pv 0) pk_nil)) (pa_cons (pmkEK T.m_UnknownName T.t_UnknownName PySem.F.excBase_LookupError (fun _ _ F b => ok_UnknownName___init T F b) kwe_UnknownName_name hr (pk_cons (pv 0) pk_nil)) pa_nil)))))))))
      (pss_cons (ps_set (i := 2) sc_law_by_name.nd rfl (.inl rfl) (pe_op op_cat (pv 2) (pe_lst (pa_cons (pmkEK T.m_UnknownEye T.t_UnknownEye PySem.F.excBase_LookupError (fun _ _ F b => ok_UnknownEye___init T F b) kwe_UnknownEye_name hr (pk_cons (pv 0) pk_nil)) (pa_cons (pmkEK T.m_UnknownGrant T.t_UnknownGrant PySem.F.excBase_LookupError (fun _ _ F b => ok_UnknownGrant___init T F b) kwe_UnknownGrant_at hr (pk_cons (pv 0) pk_nil)) (pa_cons (pmkEK T.m_UnknownBan T.t_UnknownBan PySem.F.excBase_LookupError (fun _ _ F b => ok_UnknownBan___init T F b) kwe_UnknownBan_at hr (pk_cons (pv 0) pk_nil)) (pa_cons (pmkEK T.m_UnknownShare T.t_UnknownShare PySem.F.excBase_LookupError (fun _ _ F b => ok_UnknownShare___init T F b) kwe_UnknownShare_at hr (pk_cons (pv 0) pk_nil)) (pa_cons (pmkEK T.m_UnknownSaying T.t_UnknownSaying PySem.F.excBase_LookupError (fun _ _ F b => ok_UnknownSaying___init T F b) kwe_UnknownSaying_at hr (pk_cons (pv 0) pk_nil)) pa_nil))))))))
      (pss_one (ps_ret (pe_op op_cat (pv 2) (pe_lst (pa_cons (pe_exc0 PySem.F.excBase_IndexError T.z_NothingLeft.exc T.m_NothingLeft T.z_NothingLeft.kC (by rfl)) pa_nil))))))))))), ?_⟩
    refine ⟨_, rfl, rfl, fun a1 na1 => ⟨a1, _, rfl, upd_same, fun d1 nd1 ne1 => ?_⟩⟩
    rw [upd_ne ne1] at nd1
    refine ⟨rfl, d1, _, upd_same, (upd_ne ne1).trans upd_same, nd1, ?_⟩
    rw [made_to ne1]
    have e1 := (Ex.new (o := ExD a1 AA.InvalidName d1) na1).trans (Ex.new (o := .xd [(Str.ofString "value", a)]) ((upd_ne ne1).trans nd1))
    have h1 : ErrV (upd (upd H a1 (ExD a1 AA.InvalidName d1)) d1 (.xd [(Str.ofString "value", a)])) (.ref a1) AA.InvalidName [(Str.ofString "value", a)] := ⟨a1, rfl, .inl ⟨d1, isX_D ((upd_ne (Ne.symm ne1)).trans upd_same), upd_same⟩⟩
    generalize upd (upd H a1 _) d1 _ = H1 at e1 h1 ⊢
    generalize V.ref a1 = u1 at h1 ⊢
    clear na1 nd1 ne1
    refine ⟨_, rfl, rfl, fun a2 na2 => ⟨a2, _, rfl, upd_same, fun d2 nd2 ne2 => ?_⟩⟩
    rw [upd_ne ne2] at nd2
    refine ⟨rfl, d2, _, upd_same, (upd_ne ne2).trans upd_same, nd2, ?_⟩
    rw [made_to ne2]
    have e2 := (Ex.new (o := ExD a2 AA.InvalidNumber d2) na2).trans (Ex.new (o := .xd [(Str.ofString "value", a)]) ((upd_ne ne2).trans nd2))
    have h2 : ErrV (upd (upd H1 a2 (ExD a2 AA.InvalidNumber d2)) d2 (.xd [(Str.ofString "value", a)])) (.ref a2) AA.InvalidNumber [(Str.ofString "value", a)] := ⟨a2, rfl, .inl ⟨d2, isX_D ((upd_ne (Ne.symm ne2)).trans upd_same), upd_same⟩⟩
    generalize upd (upd H1 a2 _) d2 _ = H2 at e2 h2 ⊢
    generalize V.ref a2 = u2 at h2 ⊢
    clear na2 nd2 ne2
    refine ⟨_, rfl, rfl, fun a3 na3 => ⟨a3, _, rfl, upd_same, fun d3 nd3 ne3 => ?_⟩⟩
    rw [upd_ne ne3] at nd3
    refine ⟨rfl, d3, _, upd_same, (upd_ne ne3).trans upd_same, nd3, ?_⟩
    rw [made_to ne3]
    have e3 := (Ex.new (o := ExD a3 AA.InvalidText d3) na3).trans (Ex.new (o := .xd [(Str.ofString "at", a)]) ((upd_ne ne3).trans nd3))
    have h3 : ErrV (upd (upd H2 a3 (ExD a3 AA.InvalidText d3)) d3 (.xd [(Str.ofString "at", a)])) (.ref a3) AA.InvalidText [(Str.ofString "at", a)] := ⟨a3, rfl, .inl ⟨d3, isX_D ((upd_ne (Ne.symm ne3)).trans upd_same), upd_same⟩⟩
    generalize upd (upd H2 a3 _) d3 _ = H3 at e3 h3 ⊢
    generalize V.ref a3 = u3 at h3 ⊢
    clear na3 nd3 ne3
    refine ⟨_, rfl, rfl, fun a4 na4 => ⟨a4, _, rfl, upd_same, fun d4 nd4 ne4 => ?_⟩⟩
    rw [upd_ne ne4] at nd4
    refine ⟨rfl, d4, _, upd_same, (upd_ne ne4).trans upd_same, nd4, ?_⟩
    rw [made_to ne4]
    have e4 := (Ex.new (o := ExD a4 AA.InvalidCircle d4) na4).trans (Ex.new (o := .xd [(Str.ofString "at", a)]) ((upd_ne ne4).trans nd4))
    have h4 : ErrV (upd (upd H3 a4 (ExD a4 AA.InvalidCircle d4)) d4 (.xd [(Str.ofString "at", a)])) (.ref a4) AA.InvalidCircle [(Str.ofString "at", a)] := ⟨a4, rfl, .inl ⟨d4, isX_D ((upd_ne (Ne.symm ne4)).trans upd_same), upd_same⟩⟩
    generalize upd (upd H3 a4 _) d4 _ = H4 at e4 h4 ⊢
    generalize V.ref a4 = u4 at h4 ⊢
    clear na4 nd4 ne4
    refine ⟨_, rfl, rfl, fun a5 na5 => ⟨a5, _, rfl, upd_same, fun d5 nd5 ne5 => ?_⟩⟩
    rw [upd_ne ne5] at nd5
    refine ⟨rfl, d5, _, upd_same, (upd_ne ne5).trans upd_same, nd5, ?_⟩
    rw [made_to ne5]
    have e5 := (Ex.new (o := ExD a5 AA.InvalidTie d5) na5).trans (Ex.new (o := .xd [(Str.ofString "at", a)]) ((upd_ne ne5).trans nd5))
    have h5 : ErrV (upd (upd H4 a5 (ExD a5 AA.InvalidTie d5)) d5 (.xd [(Str.ofString "at", a)])) (.ref a5) AA.InvalidTie [(Str.ofString "at", a)] := ⟨a5, rfl, .inl ⟨d5, isX_D ((upd_ne (Ne.symm ne5)).trans upd_same), upd_same⟩⟩
    generalize upd (upd H4 a5 _) d5 _ = H5 at e5 h5 ⊢
    generalize V.ref a5 = u5 at h5 ⊢
    clear na5 nd5 ne5
    refine ⟨by show 5 ≤ sizeLine; decide, fun L0 hL0 => ?_⟩
    have x0 := Ex.new (o := .lst [u1, u2, u3, u4, u5]) hL0
    have g0 := upd_same (H := H5) (a := L0) (o := HO.lst [u1, u2, u3, u4, u5])
    have f0 : ErrsAt (upd H5 L0 (.lst [u1, u2, u3, u4, u5])) [u1, u2, u3, u4, u5] _ := .cons (h1.mono ((e2).trans ((e3).trans ((e4).trans ((e5).trans (x0)))))) (.cons (h2.mono ((e3).trans ((e4).trans ((e5).trans (x0))))) (.cons (h3.mono ((e4).trans ((e5).trans (x0)))) (.cons (h4.mono ((e5).trans (x0))) (.cons (h5.mono (x0)) (.nil)))))
    generalize upd H5 L0 _ = G0 at x0 g0 f0 ⊢
    have y0 := (e1).trans ((e2).trans ((e3).trans ((e4).trans ((e5).trans (x0)))))
    have F0 := f0
    have P0 := g0
    have Y0 := y0
    generalize G0 = J0 at *
    refine ⟨_, rfl, ?_⟩
    refine ⟨_, rfl, rfl, fun a6 na6 => ⟨a6, _, rfl, upd_same, fun d6 nd6 ne6 => ?_⟩⟩
    rw [upd_ne ne6] at nd6
    refine ⟨rfl, d6, _, upd_same, (upd_ne ne6).trans upd_same, nd6, ?_⟩
    rw [made_to ne6]
    have e6 := (Ex.new (o := ExD a6 AA.InvalidParting d6) na6).trans (Ex.new (o := .xd [(Str.ofString "value", a)]) ((upd_ne ne6).trans nd6))
    have h6 : ErrV (upd (upd J0 a6 (ExD a6 AA.InvalidParting d6)) d6 (.xd [(Str.ofString "value", a)])) (.ref a6) AA.InvalidParting [(Str.ofString "value", a)] := ⟨a6, rfl, .inl ⟨d6, isX_D ((upd_ne (Ne.symm ne6)).trans upd_same), upd_same⟩⟩
    generalize upd (upd J0 a6 _) d6 _ = H6 at e6 h6 ⊢
    generalize V.ref a6 = u6 at h6 ⊢
    clear na6 nd6 ne6
    refine ⟨_, rfl, rfl, fun a7 na7 => ⟨a7, _, rfl, upd_same, fun d7 nd7 ne7 => ?_⟩⟩
    rw [upd_ne ne7] at nd7
    refine ⟨rfl, d7, _, upd_same, (upd_ne ne7).trans upd_same, nd7, ?_⟩
    rw [made_to ne7]
    have e7 := (Ex.new (o := ExD a7 AA.InvalidCase d7) na7).trans (Ex.new (o := .xd [(Str.ofString "value", a)]) ((upd_ne ne7).trans nd7))
    have h7 : ErrV (upd (upd H6 a7 (ExD a7 AA.InvalidCase d7)) d7 (.xd [(Str.ofString "value", a)])) (.ref a7) AA.InvalidCase [(Str.ofString "value", a)] := ⟨a7, rfl, .inl ⟨d7, isX_D ((upd_ne (Ne.symm ne7)).trans upd_same), upd_same⟩⟩
    generalize upd (upd H6 a7 _) d7 _ = H7 at e7 h7 ⊢
    generalize V.ref a7 = u7 at h7 ⊢
    clear na7 nd7 ne7
    refine ⟨_, rfl, rfl, fun a8 na8 => ⟨a8, _, rfl, upd_same, fun d8 nd8 ne8 => ?_⟩⟩
    rw [upd_ne ne8] at nd8
    refine ⟨rfl, d8, _, upd_same, (upd_ne ne8).trans upd_same, nd8, ?_⟩
    rw [made_to ne8]
    have e8 := (Ex.new (o := ExD a8 AA.InvalidGrant d8) na8).trans (Ex.new (o := .xd [(Str.ofString "at", a)]) ((upd_ne ne8).trans nd8))
    have h8 : ErrV (upd (upd H7 a8 (ExD a8 AA.InvalidGrant d8)) d8 (.xd [(Str.ofString "at", a)])) (.ref a8) AA.InvalidGrant [(Str.ofString "at", a)] := ⟨a8, rfl, .inl ⟨d8, isX_D ((upd_ne (Ne.symm ne8)).trans upd_same), upd_same⟩⟩
    generalize upd (upd H7 a8 _) d8 _ = H8 at e8 h8 ⊢
    generalize V.ref a8 = u8 at h8 ⊢
    clear na8 nd8 ne8
    refine ⟨_, rfl, rfl, fun a9 na9 => ⟨a9, _, rfl, upd_same, fun d9 nd9 ne9 => ?_⟩⟩
    rw [upd_ne ne9] at nd9
    refine ⟨rfl, d9, _, upd_same, (upd_ne ne9).trans upd_same, nd9, ?_⟩
    rw [made_to ne9]
    have e9 := (Ex.new (o := ExD a9 AA.InvalidBan d9) na9).trans (Ex.new (o := .xd [(Str.ofString "at", a)]) ((upd_ne ne9).trans nd9))
    have h9 : ErrV (upd (upd H8 a9 (ExD a9 AA.InvalidBan d9)) d9 (.xd [(Str.ofString "at", a)])) (.ref a9) AA.InvalidBan [(Str.ofString "at", a)] := ⟨a9, rfl, .inl ⟨d9, isX_D ((upd_ne (Ne.symm ne9)).trans upd_same), upd_same⟩⟩
    generalize upd (upd H8 a9 _) d9 _ = H9 at e9 h9 ⊢
    generalize V.ref a9 = u9 at h9 ⊢
    clear na9 nd9 ne9
    refine ⟨_, rfl, rfl, fun a10 na10 => ⟨a10, _, rfl, upd_same, fun d10 nd10 ne10 => ?_⟩⟩
    rw [upd_ne ne10] at nd10
    refine ⟨rfl, d10, _, upd_same, (upd_ne ne10).trans upd_same, nd10, ?_⟩
    rw [made_to ne10]
    have e10 := (Ex.new (o := ExD a10 AA.InvalidShare d10) na10).trans (Ex.new (o := .xd [(Str.ofString "at", a)]) ((upd_ne ne10).trans nd10))
    have h10 : ErrV (upd (upd H9 a10 (ExD a10 AA.InvalidShare d10)) d10 (.xd [(Str.ofString "at", a)])) (.ref a10) AA.InvalidShare [(Str.ofString "at", a)] := ⟨a10, rfl, .inl ⟨d10, isX_D ((upd_ne (Ne.symm ne10)).trans upd_same), upd_same⟩⟩
    generalize upd (upd H9 a10 _) d10 _ = H10 at e10 h10 ⊢
    generalize V.ref a10 = u10 at h10 ⊢
    clear na10 nd10 ne10
    refine ⟨by show 5 ≤ sizeLine; decide, fun L1 hL1 => ?_⟩
    have x1 := Ex.new (o := .lst [u6, u7, u8, u9, u10]) hL1
    have g1 := upd_same (H := H10) (a := L1) (o := HO.lst [u6, u7, u8, u9, u10])
    have f1 : ErrsAt (upd H10 L1 (.lst [u6, u7, u8, u9, u10])) [u6, u7, u8, u9, u10] _ := .cons (h6.mono ((e7).trans ((e8).trans ((e9).trans ((e10).trans (x1)))))) (.cons (h7.mono ((e8).trans ((e9).trans ((e10).trans (x1))))) (.cons (h8.mono ((e9).trans ((e10).trans (x1)))) (.cons (h9.mono ((e10).trans (x1))) (.cons (h10.mono (x1)) (.nil)))))
    generalize upd H10 L1 _ = G1 at x1 g1 f1 ⊢
    have y1 := (e6).trans ((e7).trans ((e8).trans ((e9).trans ((e10).trans (x1)))))
    refine ⟨L0, L1, _, _, rfl, rfl, y1 _ _ P0, g1, by show 5 + 5 ≤ sizeLine; decide, fun M1 hM1 => ?_⟩
    have F1 := ((F0.mono y1).append f1).mono (Ex.new (o := .lst ([u1, u2, u3, u4, u5] ++ [u6, u7, u8, u9, u10])) hM1)
    have P1 := upd_same (H := G1) (a := M1) (o := HO.lst ([u1, u2, u3, u4, u5] ++ [u6, u7, u8, u9, u10]))
    have Y1 := Y0.trans (y1.trans (Ex.new (o := .lst ([u1, u2, u3, u4, u5] ++ [u6, u7, u8, u9, u10])) hM1))
    generalize upd G1 M1 _ = J1 at F1 P1 Y1 ⊢
    refine ⟨_, rfl, ?_⟩
    refine ⟨_, rfl, rfl, fun a11 na11 => ⟨a11, _, rfl, upd_same, fun d11 nd11 ne11 => ?_⟩⟩
    rw [upd_ne ne11] at nd11
    refine ⟨rfl, d11, _, upd_same, (upd_ne ne11).trans upd_same, nd11, ?_⟩
    rw [made_to ne11]
    have e11 := (Ex.new (o := ExD a11 AA.InvalidSaying d11) na11).trans (Ex.new (o := .xd [(Str.ofString "at", a)]) ((upd_ne ne11).trans nd11))
    have h11 : ErrV (upd (upd J1 a11 (ExD a11 AA.InvalidSaying d11)) d11 (.xd [(Str.ofString "at", a)])) (.ref a11) AA.InvalidSaying [(Str.ofString "at", a)] := ⟨a11, rfl, .inl ⟨d11, isX_D ((upd_ne (Ne.symm ne11)).trans upd_same), upd_same⟩⟩
    generalize upd (upd J1 a11 _) d11 _ = H11 at e11 h11 ⊢
    generalize V.ref a11 = u11 at h11 ⊢
    clear na11 nd11 ne11
    refine ⟨_, rfl, rfl, fun a12 na12 => ⟨a12, _, rfl, upd_same, fun d12 nd12 ne12 => ?_⟩⟩
    rw [upd_ne ne12] at nd12
    refine ⟨rfl, d12, _, upd_same, (upd_ne ne12).trans upd_same, nd12, ?_⟩
    rw [made_to ne12]
    have e12 := (Ex.new (o := ExD a12 AA.InvalidLog d12) na12).trans (Ex.new (o := .xd [(Str.ofString "at", a)]) ((upd_ne ne12).trans nd12))
    have h12 : ErrV (upd (upd H11 a12 (ExD a12 AA.InvalidLog d12)) d12 (.xd [(Str.ofString "at", a)])) (.ref a12) AA.InvalidLog [(Str.ofString "at", a)] := ⟨a12, rfl, .inl ⟨d12, isX_D ((upd_ne (Ne.symm ne12)).trans upd_same), upd_same⟩⟩
    generalize upd (upd H11 a12 _) d12 _ = H12 at e12 h12 ⊢
    generalize V.ref a12 = u12 at h12 ⊢
    clear na12 nd12 ne12
    refine ⟨_, rfl, rfl, fun a13 na13 => ⟨a13, _, rfl, upd_same, fun d13 nd13 ne13 => ?_⟩⟩
    rw [upd_ne ne13] at nd13
    refine ⟨rfl, d13, _, upd_same, (upd_ne ne13).trans upd_same, nd13, ?_⟩
    rw [made_to ne13]
    have e13 := (Ex.new (o := ExD a13 AA.InvalidLot d13) na13).trans (Ex.new (o := .xd [(Str.ofString "at", a)]) ((upd_ne ne13).trans nd13))
    have h13 : ErrV (upd (upd H12 a13 (ExD a13 AA.InvalidLot d13)) d13 (.xd [(Str.ofString "at", a)])) (.ref a13) AA.InvalidLot [(Str.ofString "at", a)] := ⟨a13, rfl, .inl ⟨d13, isX_D ((upd_ne (Ne.symm ne13)).trans upd_same), upd_same⟩⟩
    generalize upd (upd H12 a13 _) d13 _ = H13 at e13 h13 ⊢
    generalize V.ref a13 = u13 at h13 ⊢
    clear na13 nd13 ne13
    refine fun a14 na14 => ?_
    have e14 := Ex.new (o := ExO (.ref AA.InvalidEyes) a14) na14
    have h14 : ErrV (upd H13 a14 (ExO (.ref AA.InvalidEyes) a14)) (.ref a14) AA.InvalidEyes [] := ⟨a14, rfl, .inr ⟨isX_O upd_same, rfl⟩⟩
    generalize upd H13 a14 _ = H14 at e14 h14 ⊢
    generalize V.ref a14 = u14 at h14 ⊢
    clear na14
    refine ⟨_, rfl, rfl, fun a15 na15 => ⟨a15, _, rfl, upd_same, fun d15 nd15 ne15 => ?_⟩⟩
    rw [upd_ne ne15] at nd15
    refine ⟨rfl, d15, _, upd_same, (upd_ne ne15).trans upd_same, nd15, ?_⟩
    rw [made_to ne15]
    have e15 := (Ex.new (o := ExD a15 AA.InvalidDeed d15) na15).trans (Ex.new (o := .xd [(Str.ofString "at", a)]) ((upd_ne ne15).trans nd15))
    have h15 : ErrV (upd (upd H14 a15 (ExD a15 AA.InvalidDeed d15)) d15 (.xd [(Str.ofString "at", a)])) (.ref a15) AA.InvalidDeed [(Str.ofString "at", a)] := ⟨a15, rfl, .inl ⟨d15, isX_D ((upd_ne (Ne.symm ne15)).trans upd_same), upd_same⟩⟩
    generalize upd (upd H14 a15 _) d15 _ = H15 at e15 h15 ⊢
    generalize V.ref a15 = u15 at h15 ⊢
    clear na15 nd15 ne15
    refine ⟨by show 5 ≤ sizeLine; decide, fun L2 hL2 => ?_⟩
    have x2 := Ex.new (o := .lst [u11, u12, u13, u14, u15]) hL2
    have g2 := upd_same (H := H15) (a := L2) (o := HO.lst [u11, u12, u13, u14, u15])
    have f2 : ErrsAt (upd H15 L2 (.lst [u11, u12, u13, u14, u15])) [u11, u12, u13, u14, u15] _ := .cons (h11.mono ((e12).trans ((e13).trans ((e14).trans ((e15).trans (x2)))))) (.cons (h12.mono ((e13).trans ((e14).trans ((e15).trans (x2))))) (.cons (h13.mono ((e14).trans ((e15).trans (x2)))) (.cons (h14.mono ((e15).trans (x2))) (.cons (h15.mono (x2)) (.nil)))))
    generalize upd H15 L2 _ = G2 at x2 g2 f2 ⊢
    have y2 := (e11).trans ((e12).trans ((e13).trans ((e14).trans ((e15).trans (x2)))))
    refine ⟨M1, L2, _, _, rfl, rfl, y2 _ _ P1, g2, by show 10 + 5 ≤ sizeLine; decide, fun M2 hM2 => ?_⟩
    have F2 := ((F1.mono y2).append f2).mono (Ex.new (o := .lst ([u1, u2, u3, u4, u5] ++ [u6, u7, u8, u9, u10] ++ [u11, u12, u13, u14, u15])) hM2)
    have P2 := upd_same (H := G2) (a := M2) (o := HO.lst ([u1, u2, u3, u4, u5] ++ [u6, u7, u8, u9, u10] ++ [u11, u12, u13, u14, u15]))
    have Y2 := Y1.trans (y2.trans (Ex.new (o := .lst ([u1, u2, u3, u4, u5] ++ [u6, u7, u8, u9, u10] ++ [u11, u12, u13, u14, u15])) hM2))
    generalize upd G2 M2 _ = J2 at F2 P2 Y2 ⊢
    refine ⟨_, rfl, ?_⟩
    refine fun a16 na16 => ?_
    have e16 := Ex.new (o := ExO (.ref AA.InvalidQuestion) a16) na16
    have h16 : ErrV (upd J2 a16 (ExO (.ref AA.InvalidQuestion) a16)) (.ref a16) AA.InvalidQuestion [] := ⟨a16, rfl, .inr ⟨isX_O upd_same, rfl⟩⟩
    generalize upd J2 a16 _ = H16 at e16 h16 ⊢
    generalize V.ref a16 = u16 at h16 ⊢
    clear na16
    refine ⟨_, rfl, _, rfl, rfl, fun a17 na17 => ⟨a17, _, _, rfl, upd_same, fun d17 nd17 ne17 => ?_⟩⟩
    rw [upd_ne ne17] at nd17
    refine ⟨rfl, d17, _, (upd_ne ne17.symm).trans upd_same, upd_same, nd17, ?_⟩
    rw [made_to2 ne17]
    have e17 := (Ex.new (o := ExD a17 AA.TooMany d17) na17).trans (Ex.new (o := .xd [(Str.ofString "most", b), (Str.ofString "what", a)]) ((upd_ne ne17).trans nd17))
    have h17 : ErrV (upd (upd H16 a17 (ExD a17 AA.TooMany d17)) d17 (.xd [(Str.ofString "most", b), (Str.ofString "what", a)])) (.ref a17) AA.TooMany [(Str.ofString "most", b), (Str.ofString "what", a)] := ⟨a17, rfl, .inl ⟨d17, isX_D ((upd_ne (Ne.symm ne17)).trans upd_same), upd_same⟩⟩
    generalize upd (upd H16 a17 _) d17 _ = H17 at e17 h17 ⊢
    generalize V.ref a17 = u17 at h17 ⊢
    clear na17 nd17 ne17
    refine ⟨_, rfl, _, rfl, rfl, fun a18 na18 => ⟨a18, _, _, rfl, upd_same, fun d18 nd18 ne18 => ?_⟩⟩
    rw [upd_ne ne18] at nd18
    refine ⟨rfl, d18, _, (upd_ne ne18.symm).trans upd_same, upd_same, nd18, ?_⟩
    rw [made_to2 ne18]
    have e18 := (Ex.new (o := ExD a18 AA.NotAlike d18) na18).trans (Ex.new (o := .xd [(Str.ofString "other", b), (Str.ofString "one", a)]) ((upd_ne ne18).trans nd18))
    have h18 : ErrV (upd (upd H17 a18 (ExD a18 AA.NotAlike d18)) d18 (.xd [(Str.ofString "other", b), (Str.ofString "one", a)])) (.ref a18) AA.NotAlike [(Str.ofString "other", b), (Str.ofString "one", a)] := ⟨a18, rfl, .inl ⟨d18, isX_D ((upd_ne (Ne.symm ne18)).trans upd_same), upd_same⟩⟩
    generalize upd (upd H17 a18 _) d18 _ = H18 at e18 h18 ⊢
    generalize V.ref a18 = u18 at h18 ⊢
    clear na18 nd18 ne18
    refine ⟨_, rfl, rfl, fun a19 na19 => ⟨a19, _, rfl, upd_same, fun d19 nd19 ne19 => ?_⟩⟩
    rw [upd_ne ne19] at nd19
    refine ⟨rfl, d19, _, upd_same, (upd_ne ne19).trans upd_same, nd19, ?_⟩
    rw [made_to ne19]
    have e19 := (Ex.new (o := ExD a19 AA.CommonShown d19) na19).trans (Ex.new (o := .xd [(Str.ofString "at", a)]) ((upd_ne ne19).trans nd19))
    have h19 : ErrV (upd (upd H18 a19 (ExD a19 AA.CommonShown d19)) d19 (.xd [(Str.ofString "at", a)])) (.ref a19) AA.CommonShown [(Str.ofString "at", a)] := ⟨a19, rfl, .inl ⟨d19, isX_D ((upd_ne (Ne.symm ne19)).trans upd_same), upd_same⟩⟩
    generalize upd (upd H18 a19 _) d19 _ = H19 at e19 h19 ⊢
    generalize V.ref a19 = u19 at h19 ⊢
    clear na19 nd19 ne19
    refine fun a20 na20 => ?_
    have e20 := Ex.new (o := ExO (.ref AA.NotPooled) a20) na20
    have h20 : ErrV (upd H19 a20 (ExO (.ref AA.NotPooled) a20)) (.ref a20) AA.NotPooled [] := ⟨a20, rfl, .inr ⟨isX_O upd_same, rfl⟩⟩
    generalize upd H19 a20 _ = H20 at e20 h20 ⊢
    generalize V.ref a20 = u20 at h20 ⊢
    clear na20
    refine ⟨by show 5 ≤ sizeLine; decide, fun L3 hL3 => ?_⟩
    have x3 := Ex.new (o := .lst [u16, u17, u18, u19, u20]) hL3
    have g3 := upd_same (H := H20) (a := L3) (o := HO.lst [u16, u17, u18, u19, u20])
    have f3 : ErrsAt (upd H20 L3 (.lst [u16, u17, u18, u19, u20])) [u16, u17, u18, u19, u20] _ := .cons (h16.mono ((e17).trans ((e18).trans ((e19).trans ((e20).trans (x3)))))) (.cons (h17.mono ((e18).trans ((e19).trans ((e20).trans (x3))))) (.cons (h18.mono ((e19).trans ((e20).trans (x3)))) (.cons (h19.mono ((e20).trans (x3))) (.cons (h20.mono (x3)) (.nil)))))
    generalize upd H20 L3 _ = G3 at x3 g3 f3 ⊢
    have y3 := (e16).trans ((e17).trans ((e18).trans ((e19).trans ((e20).trans (x3)))))
    refine ⟨M2, L3, _, _, rfl, rfl, y3 _ _ P2, g3, by show 15 + 5 ≤ sizeLine; decide, fun M3 hM3 => ?_⟩
    have F3 := ((F2.mono y3).append f3).mono (Ex.new (o := .lst ([u1, u2, u3, u4, u5] ++ [u6, u7, u8, u9, u10] ++ [u11, u12, u13, u14, u15] ++ [u16, u17, u18, u19, u20])) hM3)
    have P3 := upd_same (H := G3) (a := M3) (o := HO.lst ([u1, u2, u3, u4, u5] ++ [u6, u7, u8, u9, u10] ++ [u11, u12, u13, u14, u15] ++ [u16, u17, u18, u19, u20]))
    have Y3 := Y2.trans (y3.trans (Ex.new (o := .lst ([u1, u2, u3, u4, u5] ++ [u6, u7, u8, u9, u10] ++ [u11, u12, u13, u14, u15] ++ [u16, u17, u18, u19, u20])) hM3))
    generalize upd G3 M3 _ = J3 at F3 P3 Y3 ⊢
    refine ⟨_, rfl, ?_⟩
    refine fun a21 na21 => ?_
    have e21 := Ex.new (o := ExO (.ref AA.UnlikeSketches) a21) na21
    have h21 : ErrV (upd J3 a21 (ExO (.ref AA.UnlikeSketches) a21)) (.ref a21) AA.UnlikeSketches [] := ⟨a21, rfl, .inr ⟨isX_O upd_same, rfl⟩⟩
    generalize upd J3 a21 _ = H21 at e21 h21 ⊢
    generalize V.ref a21 = u21 at h21 ⊢
    clear na21
    refine ⟨_, rfl, rfl, fun a22 na22 => ⟨a22, _, rfl, upd_same, fun d22 nd22 ne22 => ?_⟩⟩
    rw [upd_ne ne22] at nd22
    refine ⟨rfl, d22, _, upd_same, (upd_ne ne22).trans upd_same, nd22, ?_⟩
    rw [made_to ne22]
    have e22 := (Ex.new (o := ExD a22 AA.NotSafe d22) na22).trans (Ex.new (o := .xd [(Str.ofString "at", a)]) ((upd_ne ne22).trans nd22))
    have h22 : ErrV (upd (upd H21 a22 (ExD a22 AA.NotSafe d22)) d22 (.xd [(Str.ofString "at", a)])) (.ref a22) AA.NotSafe [(Str.ofString "at", a)] := ⟨a22, rfl, .inl ⟨d22, isX_D ((upd_ne (Ne.symm ne22)).trans upd_same), upd_same⟩⟩
    generalize upd (upd H21 a22 _) d22 _ = H22 at e22 h22 ⊢
    generalize V.ref a22 = u22 at h22 ⊢
    clear na22 nd22 ne22
    refine ⟨_, rfl, rfl, fun a23 na23 => ⟨a23, _, rfl, upd_same, fun d23 nd23 ne23 => ?_⟩⟩
    rw [upd_ne ne23] at nd23
    refine ⟨rfl, d23, _, upd_same, (upd_ne ne23).trans upd_same, nd23, ?_⟩
    rw [made_to ne23]
    have e23 := (Ex.new (o := ExD a23 AA.CannotStand d23) na23).trans (Ex.new (o := .xd [(Str.ofString "at", a)]) ((upd_ne ne23).trans nd23))
    have h23 : ErrV (upd (upd H22 a23 (ExD a23 AA.CannotStand d23)) d23 (.xd [(Str.ofString "at", a)])) (.ref a23) AA.CannotStand [(Str.ofString "at", a)] := ⟨a23, rfl, .inl ⟨d23, isX_D ((upd_ne (Ne.symm ne23)).trans upd_same), upd_same⟩⟩
    generalize upd (upd H22 a23 _) d23 _ = H23 at e23 h23 ⊢
    generalize V.ref a23 = u23 at h23 ⊢
    clear na23 nd23 ne23
    refine ⟨_, rfl, rfl, fun a24 na24 => ⟨a24, _, rfl, upd_same, fun d24 nd24 ne24 => ?_⟩⟩
    rw [upd_ne ne24] at nd24
    refine ⟨rfl, d24, _, upd_same, (upd_ne ne24).trans upd_same, nd24, ?_⟩
    rw [made_to ne24]
    have e24 := (Ex.new (o := ExD a24 AA.NameTaken d24) na24).trans (Ex.new (o := .xd [(Str.ofString "name", a)]) ((upd_ne ne24).trans nd24))
    have h24 : ErrV (upd (upd H23 a24 (ExD a24 AA.NameTaken d24)) d24 (.xd [(Str.ofString "name", a)])) (.ref a24) AA.NameTaken [(Str.ofString "name", a)] := ⟨a24, rfl, .inl ⟨d24, isX_D ((upd_ne (Ne.symm ne24)).trans upd_same), upd_same⟩⟩
    generalize upd (upd H23 a24 _) d24 _ = H24 at e24 h24 ⊢
    generalize V.ref a24 = u24 at h24 ⊢
    clear na24 nd24 ne24
    refine ⟨_, rfl, rfl, fun a25 na25 => ⟨a25, _, rfl, upd_same, fun d25 nd25 ne25 => ?_⟩⟩
    rw [upd_ne ne25] at nd25
    refine ⟨rfl, d25, _, upd_same, (upd_ne ne25).trans upd_same, nd25, ?_⟩
    rw [made_to ne25]
    have e25 := (Ex.new (o := ExD a25 AA.InUse d25) na25).trans (Ex.new (o := .xd [(Str.ofString "name", a)]) ((upd_ne ne25).trans nd25))
    have h25 : ErrV (upd (upd H24 a25 (ExD a25 AA.InUse d25)) d25 (.xd [(Str.ofString "name", a)])) (.ref a25) AA.InUse [(Str.ofString "name", a)] := ⟨a25, rfl, .inl ⟨d25, isX_D ((upd_ne (Ne.symm ne25)).trans upd_same), upd_same⟩⟩
    generalize upd (upd H24 a25 _) d25 _ = H25 at e25 h25 ⊢
    generalize V.ref a25 = u25 at h25 ⊢
    clear na25 nd25 ne25
    refine ⟨_, rfl, rfl, fun a26 na26 => ⟨a26, _, rfl, upd_same, fun d26 nd26 ne26 => ?_⟩⟩
    rw [upd_ne ne26] at nd26
    refine ⟨rfl, d26, _, upd_same, (upd_ne ne26).trans upd_same, nd26, ?_⟩
    rw [made_to ne26]
    have e26 := (Ex.new (o := ExD a26 AA.UnknownName d26) na26).trans (Ex.new (o := .xd [(Str.ofString "name", a)]) ((upd_ne ne26).trans nd26))
    have h26 : ErrV (upd (upd H25 a26 (ExD a26 AA.UnknownName d26)) d26 (.xd [(Str.ofString "name", a)])) (.ref a26) AA.UnknownName [(Str.ofString "name", a)] := ⟨a26, rfl, .inl ⟨d26, isX_D ((upd_ne (Ne.symm ne26)).trans upd_same), upd_same⟩⟩
    generalize upd (upd H25 a26 _) d26 _ = H26 at e26 h26 ⊢
    generalize V.ref a26 = u26 at h26 ⊢
    clear na26 nd26 ne26
    refine ⟨by show 6 ≤ sizeLine; decide, fun L4 hL4 => ?_⟩
    have x4 := Ex.new (o := .lst [u21, u22, u23, u24, u25, u26]) hL4
    have g4 := upd_same (H := H26) (a := L4) (o := HO.lst [u21, u22, u23, u24, u25, u26])
    have f4 : ErrsAt (upd H26 L4 (.lst [u21, u22, u23, u24, u25, u26])) [u21, u22, u23, u24, u25, u26] _ := .cons (h21.mono ((e22).trans ((e23).trans ((e24).trans ((e25).trans ((e26).trans (x4))))))) (.cons (h22.mono ((e23).trans ((e24).trans ((e25).trans ((e26).trans (x4)))))) (.cons (h23.mono ((e24).trans ((e25).trans ((e26).trans (x4))))) (.cons (h24.mono ((e25).trans ((e26).trans (x4)))) (.cons (h25.mono ((e26).trans (x4))) (.cons (h26.mono (x4)) (.nil))))))
    generalize upd H26 L4 _ = G4 at x4 g4 f4 ⊢
    have y4 := (e21).trans ((e22).trans ((e23).trans ((e24).trans ((e25).trans ((e26).trans (x4))))))
    refine ⟨M3, L4, _, _, rfl, rfl, y4 _ _ P3, g4, by show 20 + 6 ≤ sizeLine; decide, fun M4 hM4 => ?_⟩
    have F4 := ((F3.mono y4).append f4).mono (Ex.new (o := .lst ([u1, u2, u3, u4, u5] ++ [u6, u7, u8, u9, u10] ++ [u11, u12, u13, u14, u15] ++ [u16, u17, u18, u19, u20] ++ [u21, u22, u23, u24, u25, u26])) hM4)
    have P4 := upd_same (H := G4) (a := M4) (o := HO.lst ([u1, u2, u3, u4, u5] ++ [u6, u7, u8, u9, u10] ++ [u11, u12, u13, u14, u15] ++ [u16, u17, u18, u19, u20] ++ [u21, u22, u23, u24, u25, u26]))
    have Y4 := Y3.trans (y4.trans (Ex.new (o := .lst ([u1, u2, u3, u4, u5] ++ [u6, u7, u8, u9, u10] ++ [u11, u12, u13, u14, u15] ++ [u16, u17, u18, u19, u20] ++ [u21, u22, u23, u24, u25, u26])) hM4))
    generalize upd G4 M4 _ = J4 at F4 P4 Y4 ⊢
    refine ⟨_, rfl, ?_⟩
    refine ⟨_, rfl, rfl, fun a27 na27 => ⟨a27, _, rfl, upd_same, fun d27 nd27 ne27 => ?_⟩⟩
    rw [upd_ne ne27] at nd27
    refine ⟨rfl, d27, _, upd_same, (upd_ne ne27).trans upd_same, nd27, ?_⟩
    rw [made_to ne27]
    have e27 := (Ex.new (o := ExD a27 AA.UnknownEye d27) na27).trans (Ex.new (o := .xd [(Str.ofString "name", a)]) ((upd_ne ne27).trans nd27))
    have h27 : ErrV (upd (upd J4 a27 (ExD a27 AA.UnknownEye d27)) d27 (.xd [(Str.ofString "name", a)])) (.ref a27) AA.UnknownEye [(Str.ofString "name", a)] := ⟨a27, rfl, .inl ⟨d27, isX_D ((upd_ne (Ne.symm ne27)).trans upd_same), upd_same⟩⟩
    generalize upd (upd J4 a27 _) d27 _ = H27 at e27 h27 ⊢
    generalize V.ref a27 = u27 at h27 ⊢
    clear na27 nd27 ne27
    refine ⟨_, rfl, rfl, fun a28 na28 => ⟨a28, _, rfl, upd_same, fun d28 nd28 ne28 => ?_⟩⟩
    rw [upd_ne ne28] at nd28
    refine ⟨rfl, d28, _, upd_same, (upd_ne ne28).trans upd_same, nd28, ?_⟩
    rw [made_to ne28]
    have e28 := (Ex.new (o := ExD a28 AA.UnknownGrant d28) na28).trans (Ex.new (o := .xd [(Str.ofString "at", a)]) ((upd_ne ne28).trans nd28))
    have h28 : ErrV (upd (upd H27 a28 (ExD a28 AA.UnknownGrant d28)) d28 (.xd [(Str.ofString "at", a)])) (.ref a28) AA.UnknownGrant [(Str.ofString "at", a)] := ⟨a28, rfl, .inl ⟨d28, isX_D ((upd_ne (Ne.symm ne28)).trans upd_same), upd_same⟩⟩
    generalize upd (upd H27 a28 _) d28 _ = H28 at e28 h28 ⊢
    generalize V.ref a28 = u28 at h28 ⊢
    clear na28 nd28 ne28
    refine ⟨_, rfl, rfl, fun a29 na29 => ⟨a29, _, rfl, upd_same, fun d29 nd29 ne29 => ?_⟩⟩
    rw [upd_ne ne29] at nd29
    refine ⟨rfl, d29, _, upd_same, (upd_ne ne29).trans upd_same, nd29, ?_⟩
    rw [made_to ne29]
    have e29 := (Ex.new (o := ExD a29 AA.UnknownBan d29) na29).trans (Ex.new (o := .xd [(Str.ofString "at", a)]) ((upd_ne ne29).trans nd29))
    have h29 : ErrV (upd (upd H28 a29 (ExD a29 AA.UnknownBan d29)) d29 (.xd [(Str.ofString "at", a)])) (.ref a29) AA.UnknownBan [(Str.ofString "at", a)] := ⟨a29, rfl, .inl ⟨d29, isX_D ((upd_ne (Ne.symm ne29)).trans upd_same), upd_same⟩⟩
    generalize upd (upd H28 a29 _) d29 _ = H29 at e29 h29 ⊢
    generalize V.ref a29 = u29 at h29 ⊢
    clear na29 nd29 ne29
    refine ⟨_, rfl, rfl, fun a30 na30 => ⟨a30, _, rfl, upd_same, fun d30 nd30 ne30 => ?_⟩⟩
    rw [upd_ne ne30] at nd30
    refine ⟨rfl, d30, _, upd_same, (upd_ne ne30).trans upd_same, nd30, ?_⟩
    rw [made_to ne30]
    have e30 := (Ex.new (o := ExD a30 AA.UnknownShare d30) na30).trans (Ex.new (o := .xd [(Str.ofString "at", a)]) ((upd_ne ne30).trans nd30))
    have h30 : ErrV (upd (upd H29 a30 (ExD a30 AA.UnknownShare d30)) d30 (.xd [(Str.ofString "at", a)])) (.ref a30) AA.UnknownShare [(Str.ofString "at", a)] := ⟨a30, rfl, .inl ⟨d30, isX_D ((upd_ne (Ne.symm ne30)).trans upd_same), upd_same⟩⟩
    generalize upd (upd H29 a30 _) d30 _ = H30 at e30 h30 ⊢
    generalize V.ref a30 = u30 at h30 ⊢
    clear na30 nd30 ne30
    refine ⟨_, rfl, rfl, fun a31 na31 => ⟨a31, _, rfl, upd_same, fun d31 nd31 ne31 => ?_⟩⟩
    rw [upd_ne ne31] at nd31
    refine ⟨rfl, d31, _, upd_same, (upd_ne ne31).trans upd_same, nd31, ?_⟩
    rw [made_to ne31]
    have e31 := (Ex.new (o := ExD a31 AA.UnknownSaying d31) na31).trans (Ex.new (o := .xd [(Str.ofString "at", a)]) ((upd_ne ne31).trans nd31))
    have h31 : ErrV (upd (upd H30 a31 (ExD a31 AA.UnknownSaying d31)) d31 (.xd [(Str.ofString "at", a)])) (.ref a31) AA.UnknownSaying [(Str.ofString "at", a)] := ⟨a31, rfl, .inl ⟨d31, isX_D ((upd_ne (Ne.symm ne31)).trans upd_same), upd_same⟩⟩
    generalize upd (upd H30 a31 _) d31 _ = H31 at e31 h31 ⊢
    generalize V.ref a31 = u31 at h31 ⊢
    clear na31 nd31 ne31
    refine ⟨by show 5 ≤ sizeLine; decide, fun L5 hL5 => ?_⟩
    have x5 := Ex.new (o := .lst [u27, u28, u29, u30, u31]) hL5
    have g5 := upd_same (H := H31) (a := L5) (o := HO.lst [u27, u28, u29, u30, u31])
    have f5 : ErrsAt (upd H31 L5 (.lst [u27, u28, u29, u30, u31])) [u27, u28, u29, u30, u31] _ := .cons (h27.mono ((e28).trans ((e29).trans ((e30).trans ((e31).trans (x5)))))) (.cons (h28.mono ((e29).trans ((e30).trans ((e31).trans (x5))))) (.cons (h29.mono ((e30).trans ((e31).trans (x5)))) (.cons (h30.mono ((e31).trans (x5))) (.cons (h31.mono (x5)) (.nil)))))
    generalize upd H31 L5 _ = G5 at x5 g5 f5 ⊢
    have y5 := (e27).trans ((e28).trans ((e29).trans ((e30).trans ((e31).trans (x5)))))
    refine ⟨M4, L5, _, _, rfl, rfl, y5 _ _ P4, g5, by show 26 + 5 ≤ sizeLine; decide, fun M5 hM5 => ?_⟩
    have F5 := ((F4.mono y5).append f5).mono (Ex.new (o := .lst ([u1, u2, u3, u4, u5] ++ [u6, u7, u8, u9, u10] ++ [u11, u12, u13, u14, u15] ++ [u16, u17, u18, u19, u20] ++ [u21, u22, u23, u24, u25, u26] ++ [u27, u28, u29, u30, u31])) hM5)
    have P5 := upd_same (H := G5) (a := M5) (o := HO.lst ([u1, u2, u3, u4, u5] ++ [u6, u7, u8, u9, u10] ++ [u11, u12, u13, u14, u15] ++ [u16, u17, u18, u19, u20] ++ [u21, u22, u23, u24, u25, u26] ++ [u27, u28, u29, u30, u31]))
    have Y5 := Y4.trans (y5.trans (Ex.new (o := .lst ([u1, u2, u3, u4, u5] ++ [u6, u7, u8, u9, u10] ++ [u11, u12, u13, u14, u15] ++ [u16, u17, u18, u19, u20] ++ [u21, u22, u23, u24, u25, u26] ++ [u27, u28, u29, u30, u31])) hM5))
    generalize upd G5 M5 _ = J5 at F5 P5 Y5 ⊢
    refine ⟨_, rfl, ?_⟩
    refine fun a32 na32 => ?_
    have e32 := Ex.new (o := ExO (.ref AA.NothingLeft) a32) na32
    have h32 : ErrV (upd J5 a32 (ExO (.ref AA.NothingLeft) a32)) (.ref a32) AA.NothingLeft [] := ⟨a32, rfl, .inr ⟨isX_O upd_same, rfl⟩⟩
    generalize upd J5 a32 _ = H32 at e32 h32 ⊢
    generalize V.ref a32 = u32 at h32 ⊢
    clear na32
    refine ⟨by show 1 ≤ sizeLine; decide, fun L6 hL6 => ?_⟩
    have x6 := Ex.new (o := .lst [u32]) hL6
    have g6 := upd_same (H := H32) (a := L6) (o := HO.lst [u32])
    have f6 : ErrsAt (upd H32 L6 (.lst [u32])) [u32] _ := .cons (h32.mono (x6)) (.nil)
    generalize upd H32 L6 _ = G6 at x6 g6 f6 ⊢
    have y6 := (e32).trans (x6)
    refine ⟨M5, L6, _, _, rfl, rfl, y6 _ _ P5, g6, by show 31 + 1 ≤ sizeLine; decide, fun M6 hM6 => ?_⟩
    have F6 := ((F5.mono y6).append f6).mono (Ex.new (o := .lst ([u1, u2, u3, u4, u5] ++ [u6, u7, u8, u9, u10] ++ [u11, u12, u13, u14, u15] ++ [u16, u17, u18, u19, u20] ++ [u21, u22, u23, u24, u25, u26] ++ [u27, u28, u29, u30, u31] ++ [u32])) hM6)
    have P6 := upd_same (H := G6) (a := M6) (o := HO.lst ([u1, u2, u3, u4, u5] ++ [u6, u7, u8, u9, u10] ++ [u11, u12, u13, u14, u15] ++ [u16, u17, u18, u19, u20] ++ [u21, u22, u23, u24, u25, u26] ++ [u27, u28, u29, u30, u31] ++ [u32]))
    have Y6 := Y5.trans (y6.trans (Ex.new (o := .lst ([u1, u2, u3, u4, u5] ++ [u6, u7, u8, u9, u10] ++ [u11, u12, u13, u14, u15] ++ [u16, u17, u18, u19, u20] ++ [u21, u22, u23, u24, u25, u26] ++ [u27, u28, u29, u30, u31] ++ [u32])) hM6))
    generalize upd G6 M6 _ = J6 at F6 P6 Y6 ⊢
    exact q _ _ _ Y6 P6 F6
end
end Eyes

set_option Elab.async false
set_option linter.all false
set_option maxRecDepth 100000
set_option maxHeartbeats 8000000
/-! What an error bears. -/
namespace Eyes
open PySem PySem.Spec PyProof.Rows L2 Evl TL
def dueF (k : Nat) (a b : V) : List V := if k ∈ [13, 15, 19, 20, 31] then [] else if k ∈ [16, 17] then [a, b] else [a]
def HasF (K : PySem.W.Frag) (C : Addr) (fs : List (Str × V)) (f : Str) (v : V) : Prop := XfC K C ∧ PySem.W.findIn K (.ref C) f = some none ∧ fs.lookup f = some v
section
variable {K : PySem.W.Frag} {mg : Str → Option Value} {AA : Adr} {C : Addr} {fs : List (Str × V)} {a b : V}
theorem bears (T : Txt K mg AA) : ∀ k : Nat, (rowsE AA a b)[k]? = some (C, fs) → k ∈ [13, 15, 19, 20, 31] ∨ (k ∈ [0, 1, 5, 6] ∧ HasF K C fs "value" a) ∨ (k = 16 ∧ HasF K C fs "what" a ∧ HasF K C fs "most" b) ∨ (k = 17 ∧ HasF K C fs "one" a ∧ HasF K C fs "other" b) ∨
    (k ∈ [23, 24, 25, 26] ∧ HasF K C fs "name" a) ∨ (k ∈ [2, 3, 4, 7, 8, 9, 10, 11, 12, 14, 18, 21, 22, 27, 28, 29, 30] ∧ HasF K C fs "at" a)
  | 0, h => by
    cases h
    exact .inr (.inl ⟨by decide, ⟨T.t_InvalidName.xf, T.a_InvalidName_value, rfl⟩⟩)
  | 1, h => by
    cases h
    exact .inr (.inl ⟨by decide, ⟨T.t_InvalidNumber.xf, T.a_InvalidNumber_value, rfl⟩⟩)
  | 2, h => by
    cases h
    exact .inr (.inr (.inr (.inr (.inr ⟨by decide, ⟨T.t_InvalidText.xf, T.a_InvalidText_at, rfl⟩⟩))))
  | 3, h => by
    cases h
    exact .inr (.inr (.inr (.inr (.inr ⟨by decide, ⟨T.t_InvalidCircle.xf, T.a_InvalidCircle_at, rfl⟩⟩))))
  | 4, h => by
    cases h
    exact .inr (.inr (.inr (.inr (.inr ⟨by decide, ⟨T.t_InvalidTie.xf, T.a_InvalidTie_at, rfl⟩⟩))))
  | 5, h => by
    cases h
    exact .inr (.inl ⟨by decide, ⟨T.t_InvalidParting.xf, T.a_InvalidParting_value, rfl⟩⟩)
  | 6, h => by
    cases h
    exact .inr (.inl ⟨by decide, ⟨T.t_InvalidCase.xf, T.a_InvalidCase_value, rfl⟩⟩)
  | 7, h => by
    cases h
    exact .inr (.inr (.inr (.inr (.inr ⟨by decide, ⟨T.t_InvalidGrant.xf, T.a_InvalidGrant_at, rfl⟩⟩))))
  | 8, h => by
    cases h
    exact .inr (.inr (.inr (.inr (.inr ⟨by decide, ⟨T.t_InvalidBan.xf, T.a_InvalidBan_at, rfl⟩⟩))))
  | 9, h => by
    cases h
    exact .inr (.inr (.inr (.inr (.inr ⟨by decide, ⟨T.t_InvalidShare.xf, T.a_InvalidShare_at, rfl⟩⟩))))
  | 10, h => by
    cases h
    exact .inr (.inr (.inr (.inr (.inr ⟨by decide, ⟨T.t_InvalidSaying.xf, T.a_InvalidSaying_at, rfl⟩⟩))))
  | 11, h => by
    cases h
    exact .inr (.inr (.inr (.inr (.inr ⟨by decide, ⟨T.t_InvalidLog.xf, T.a_InvalidLog_at, rfl⟩⟩))))
  | 12, h => by
    cases h
    exact .inr (.inr (.inr (.inr (.inr ⟨by decide, ⟨T.t_InvalidLot.xf, T.a_InvalidLot_at, rfl⟩⟩))))
  | 13, h => by
    cases h
    exact .inl (by decide)
  | 14, h => by
    cases h
    exact .inr (.inr (.inr (.inr (.inr ⟨by decide, ⟨T.t_InvalidDeed.xf, T.a_InvalidDeed_at, rfl⟩⟩))))
  | 15, h => by
    cases h
    exact .inl (by decide)
  | 16, h => by
    cases h
    exact .inr (.inr (.inl ⟨rfl, ⟨T.t_TooMany.xf, T.a_TooMany_what, rfl⟩, ⟨T.t_TooMany.xf, T.a_TooMany_most, rfl⟩⟩))
  | 17, h => by
    cases h
    exact .inr (.inr (.inr (.inl ⟨rfl, ⟨T.t_NotAlike.xf, T.a_NotAlike_one, rfl⟩, ⟨T.t_NotAlike.xf, T.a_NotAlike_other, rfl⟩⟩)))
  | 18, h => by
    cases h
    exact .inr (.inr (.inr (.inr (.inr ⟨by decide, ⟨T.t_CommonShown.xf, T.a_CommonShown_at, rfl⟩⟩))))
  | 19, h => by
    cases h
    exact .inl (by decide)
  | 20, h => by
    cases h
    exact .inl (by decide)
  | 21, h => by
    cases h
    exact .inr (.inr (.inr (.inr (.inr ⟨by decide, ⟨T.t_NotSafe.xf, T.a_NotSafe_at, rfl⟩⟩))))
  | 22, h => by
    cases h
    exact .inr (.inr (.inr (.inr (.inr ⟨by decide, ⟨T.t_CannotStand.xf, T.a_CannotStand_at, rfl⟩⟩))))
  | 23, h => by
    cases h
    exact .inr (.inr (.inr (.inr (.inl ⟨by decide, ⟨T.t_NameTaken.xf, T.a_NameTaken_name, rfl⟩⟩))))
  | 24, h => by
    cases h
    exact .inr (.inr (.inr (.inr (.inl ⟨by decide, ⟨T.t_InUse.xf, T.a_InUse_name, rfl⟩⟩))))
  | 25, h => by
    cases h
    exact .inr (.inr (.inr (.inr (.inl ⟨by decide, ⟨T.t_UnknownName.xf, T.a_UnknownName_name, rfl⟩⟩))))
  | 26, h => by
    cases h
    exact .inr (.inr (.inr (.inr (.inl ⟨by decide, ⟨T.t_UnknownEye.xf, T.a_UnknownEye_name, rfl⟩⟩))))
  | 27, h => by
    cases h
    exact .inr (.inr (.inr (.inr (.inr ⟨by decide, ⟨T.t_UnknownGrant.xf, T.a_UnknownGrant_at, rfl⟩⟩))))
  | 28, h => by
    cases h
    exact .inr (.inr (.inr (.inr (.inr ⟨by decide, ⟨T.t_UnknownBan.xf, T.a_UnknownBan_at, rfl⟩⟩))))
  | 29, h => by
    cases h
    exact .inr (.inr (.inr (.inr (.inr ⟨by decide, ⟨T.t_UnknownShare.xf, T.a_UnknownShare_at, rfl⟩⟩))))
  | 30, h => by
    cases h
    exact .inr (.inr (.inr (.inr (.inr ⟨by decide, ⟨T.t_UnknownSaying.xf, T.a_UnknownSaying_at, rfl⟩⟩))))
  | 31, h => by
    cases h
    exact .inl (by decide)
  | k + 32, h => by cases h
end
def ErrW (pn : List (Addr × Obj)) (H : Hp) (u : V) (C : Addr) (fs : List (Str × V)) : Prop := ∃ a, u = .ref a ∧ (fs = [] ∨ ∃ dd, (IsX H a C (some dd) ∨ ∃ (p : Addr × Obj) (vs : Array Value), p ∈ pn ∧ p.1 = a ∧ Zc (.ref C) (some dd) p.2 ∧ p.2.data = .fields vs) ∧ H dd = some (.xd fs))
theorem ErrV.held {pn : List (Addr × Obj)} {H : Hp} {u : V} {C : Addr} {fs : List (Str × V)} (h : ErrV H u C fs) : ErrW pn H u C fs := by
  obtain ⟨a, rfl, ⟨d, h1, h2⟩ | ⟨_, rfl⟩⟩ := h
  · exact ⟨a, rfl, .inr ⟨d, .inl h1, h2⟩⟩
  · exact ⟨a, rfl, .inl rfl⟩
theorem ErrW.mono {pn : List (Addr × Obj)} {H G : Hp} {u : V} {C : Addr} {fs : List (Str × V)} (h : ErrW pn H u C fs) (e : Ex H G) : ErrW pn G u C fs := by
  obtain ⟨a, rfl, rfl | ⟨dd, h1 | h1, h2⟩⟩ := h
  · exact ⟨a, rfl, .inl rfl⟩
  · exact ⟨a, rfl, .inr ⟨dd, .inl (h1.mono e), e _ _ h2⟩⟩
  · exact ⟨a, rfl, .inr ⟨dd, .inr h1, e _ _ h2⟩⟩
theorem ErrW.at {K : PySem.W.Frag} {pn : List (Addr × Obj)} {H : Hp} {u v : V} {C : Addr} {fs : List (Str × V)} {f : Str} (h : ErrW pn H u C fs) (g : HasF K C fs f v) : ∃ a dd, u = .ref a ∧ (IsX H a C (some dd) ∨ ∃ (p : Addr × Obj) (vs : Array Value), p ∈ pn ∧ p.1 = a ∧ Zc (.ref C) (some dd) p.2 ∧ p.2.data = .fields vs) ∧ H dd = some (.xd fs) := by
  obtain ⟨a, rfl, rfl | ⟨dd, h1, h2⟩⟩ := h
  · exact absurd g.2.2 (fun z => by cases z)
  · exact ⟨a, dd, rfl, h1, h2⟩
theorem ite_y {b : Bool} {A B : Prop} (h : b = true) (a : A) : if b = true then A else B := by
  rw [if_pos h]
  exact a
theorem ite_n {b : Bool} {A B : Prop} (h : b = false) (a : B) : if b = true then A else B := by
  rw [h, if_neg Bool.false_ne_true]
  exact a
theorem inI (k : Nat) : ∀ ls : List Nat, inV (.int k) (ls.map fun j : Nat => .int (j : Int)) = decide (k ∈ ls)
  | [] => rfl
  | j :: ls => by
    show ((j : Int) == (k : Int) || inV (.int k) (ls.map fun j : Nat => .int (j : Int))) = _
    rw [inI k ls]
    by_cases h : k = j
    · subst h
      simp
    · have h2 : ¬ (j : Int) = (k : Int) := by omega
      simp [h, h2]
theorem eqI (k j : Nat) : decide (V.int (k : Int) = V.int (j : Int)) = decide (k = j) := by
  by_cases h : k = j
  · subst h
    simp
  · have h2 : ¬ V.int (k : Int) = V.int (j : Int) := fun z => by
      cases z
      exact h rfl
    simp [h, h2]
theorem due0 {k : Nat} {a b : V} (h : k ∈ [13, 15, 19, 20, 31]) : dueF k a b = [] := if_pos h
theorem due1 {k : Nat} {a b : V} (h : k ∉ [13, 15, 19, 20, 31]) (g : k ∉ [16, 17]) : dueF k a b = [a] := by
  unfold dueF
  rw [if_neg h, if_neg g]
theorem due2 {k : Nat} {a b : V} (h : k = 16 ∨ k = 17) : dueF k a b = [a, b] := by
  rcases h with rfl | rfl <;> rfl
def spFields (AA : Adr) (pn : List (Addr × Obj)) : Sp := fun vs H Q _ => ∃ (u : V) (C : Addr) (fs : List (Str × V)) (k : Nat) (a b : V), vs = [.int k, u] ∧ ErrW pn H u C fs ∧ (rowsE AA a b)[k]? = some (C, fs) ∧ ∀ L H2, Ex H H2 → H2 L = some (.tup (dueF k a b)) → Q (.ref L) H2
def spDueF : Sp := fun vs H Q _ => ∃ (k : Nat) (a b : V), vs = [.int k, a, b] ∧ ∀ L H2, Ex H H2 → H2 L = some (.tup (dueF k a b)) → Q (.ref L) H2
section
variable {P : Program} {w : World} {K : PySem.W.Frag} {mg : Str → Option Value} {base : Heap} {AA : Adr}
theorem ok_law_fields_due (T : Txt K mg AA) : Pr P w K mg base "_law_fields_due" s_law_fields_due p_law_fields_due 2 spDueF := by
  refine pr_mk T.f_law_fields_due sc_law_fields_due (fun vs H Q E h => ?_) (fun f cdv A outer s H vs Q E hr h => ?_)
  · obtain ⟨k, a, b, rfl, _⟩ := h
    rfl
  · obtain ⟨k, a, b, rfl, q⟩ := h
    refine ⟨_, (pss_cons (ps_if (pt_cmpR (op_in_seqK (K := K) rfl) (pv 0) (pe_lst (pa_cons pe_int (pa_cons pe_int (pa_cons pe_int (pa_cons pe_int (pa_cons pe_int pa_nil)))))) (by rfl))
      (pss_one (ps_ret (pe_tup pa_nil)))
      pss_nil)
      (pss_one (ps_ret (pe_ifExp (pt_cmpR (op_in_seqK (K := K) rfl) (pv 0) (pe_lst (pa_cons pe_int (pa_cons pe_int pa_nil))) (by rfl)) (pe_tup (pa_cons (pv 1) (pa_cons (pv 2) pa_nil))) (pe_tup (pa_cons (pv 1) pa_nil)))))), ?_⟩
    refine ⟨_, rfl, by show 5 ≤ sizeLine; decide, fun L0 hL0 => ⟨L0, _, rfl, .inl (sq_of upd_same), rfl, rfl, decide (k ∈ [13, 15, 19, 20, 31]), congrArg V.bl (inI k [13, 15, 19, 20, 31]), ?_⟩⟩
    have e0 := Ex.new (o := .lst [.int 13, .int 15, .int 19, .int 20, .int 31]) hL0
    generalize upd H L0 _ = H0 at e0 ⊢
    rcases Decidable.em (k ∈ [13, 15, 19, 20, 31]) with c0 | n0
    · exact ite_y (decide_eq_true c0) ⟨by show 0 ≤ sizeLine; decide, fun L hL => q L _ (e0.trans (Ex.new hL)) (by rw [upd_same, due0 c0])⟩
    refine ite_n (decide_eq_false n0) ⟨_, rfl, by show 2 ≤ sizeLine; decide, fun L1 hL1 => ⟨L1, _, rfl, .inl (sq_of upd_same), rfl, rfl, decide (k ∈ [16, 17]), congrArg V.bl (inI k [16, 17]), ?_⟩⟩
    have e1 := e0.trans (Ex.new (o := .lst [.int 16, .int 17]) hL1)
    generalize upd H0 L1 _ = H1 at e1 ⊢
    rcases Decidable.em (k ∈ [16, 17]) with c1 | n1
    · exact ite_y (decide_eq_true c1) ⟨_, rfl, _, rfl, by show 2 ≤ sizeLine; decide, fun L hL => q L _ (e1.trans (Ex.new hL)) (by rw [upd_same, due2 (by simp at c1; omega)])⟩
    · exact ite_n (decide_eq_false n1) ⟨_, rfl, by show 1 ≤ sizeLine; decide, fun L hL => q L _ (e1.trans (Ex.new hL)) (by rw [upd_same, due1 n0 n1])⟩
theorem ok_law_fields (T : Txt K mg AA) : Pr P w K mg base "_law_fields" s_law_fields p_law_fields 2 (spFields AA []) := by
  refine pr_mk T.f_law_fields sc_law_fields (fun vs H Q E h => ?_) (fun f cdv A outer s H vs Q E hr h => ?_)
  · obtain ⟨u, C, fs, k, a, b, rfl, _⟩ := h
    rfl
  · obtain ⟨u, C, fs, k, a, b, rfl, hu, hk, q⟩ := h
    refine ⟨_, (pss_cons (ps_if (pt_cmpR (op_in_seqK (K := K) rfl) (pv 0) (pe_lst (pa_cons pe_int (pa_cons pe_int (pa_cons pe_int (pa_cons pe_int (pa_cons pe_int pa_nil)))))) (by rfl))
      (pss_one (ps_ret (pe_tup pa_nil)))
      pss_nil)
      (pss_cons (ps_if (pt_cmpR (op_in_seqK (K := K) rfl) (pv 0) (pe_lst (pa_cons pe_int (pa_cons pe_int (pa_cons pe_int (pa_cons pe_int pa_nil))))) (by rfl))
      (pss_one (ps_ret (pe_tup (pa_cons (pe_xw (K := K) (pn := []) rfl rfl (pv 1)) pa_nil))))
      pss_nil)
      (pss_cons (ps_if (pt_cmpR op_eq (pv 0) pe_int (nomark _))
      (pss_one (ps_ret (pe_tup (pa_cons (pe_xw (K := K) (pn := []) rfl rfl (pv 1)) (pa_cons (pe_xw (K := K) (pn := []) rfl rfl (pv 1)) pa_nil)))))
      pss_nil)
      (pss_cons (ps_if (pt_cmpR op_eq (pv 0) pe_int (nomark _))
      (pss_one (ps_ret (pe_tup (pa_cons (pe_xw (K := K) (pn := []) rfl rfl (pv 1)) (pa_cons (pe_xw (K := K) (pn := []) rfl rfl (pv 1)) pa_nil)))))
      pss_nil)
      (pss_one (ps_ret (pe_ifExp (pt_cmpR (op_in_seqK (K := K) rfl) (pv 0) (pe_lst (pa_cons pe_int (pa_cons pe_int (pa_cons pe_int (pa_cons pe_int pa_nil))))) (by rfl)) (pe_tup (pa_cons (pe_xw (K := K) (pn := []) rfl rfl (pv 1)) pa_nil)) (pe_tup (pa_cons (pe_xw (K := K) (pn := []) rfl rfl (pv 1)) pa_nil))))))))), ?_⟩
    have k32 : k < 32 := (List.getElem?_eq_some_iff.mp hk).1
    refine ⟨_, rfl, by show 5 ≤ sizeLine; decide, fun L0 hL0 => ⟨L0, _, rfl, .inl (sq_of upd_same), rfl, rfl, decide (k ∈ [13, 15, 19, 20, 31]), congrArg V.bl (inI k [13, 15, 19, 20, 31]), ?_⟩⟩
    have e0 := Ex.new (o := .lst [.int 13, .int 15, .int 19, .int 20, .int 31]) hL0
    have hu := hu.mono (Ex.new (o := .lst [.int 13, .int 15, .int 19, .int 20, .int 31]) hL0)
    generalize upd H L0 _ = H0 at e0 hu ⊢
    rcases Decidable.em (k ∈ [13, 15, 19, 20, 31]) with c0 | n0
    · exact ite_y (decide_eq_true c0) ⟨by show 0 ≤ sizeLine; decide, fun L hL => q L _ (e0.trans (Ex.new hL)) (by rw [upd_same, due0 c0])⟩
    refine ite_n (decide_eq_false n0) ⟨_, rfl, by show 4 ≤ sizeLine; decide, fun L1 hL1 => ⟨L1, _, rfl, .inl (sq_of upd_same), rfl, rfl, decide (k ∈ [0, 1, 5, 6]), congrArg V.bl (inI k [0, 1, 5, 6]), ?_⟩⟩
    have e1 := e0.trans (Ex.new (o := .lst [.int 0, .int 1, .int 5, .int 6]) hL1)
    have hu := hu.mono (Ex.new (o := .lst [.int 0, .int 1, .int 5, .int 6]) hL1)
    generalize upd H0 L1 _ = H1 at e1 hu ⊢
    rcases bears T k hk with c | ⟨c, h⟩ | ⟨c, h, h2⟩ | ⟨c, h, h2⟩ | ⟨c, h⟩ | ⟨c, h⟩
    · exact absurd c n0
    · obtain ⟨a0, dd, rfl, hx, hd⟩ := hu.at h
      refine ite_y (decide_eq_true c) ?_
      refine ⟨_, rfl, a0, C, dd, fs, _, rfl, hx, h.1, h.2.1, hd, h.2.2, by show 1 ≤ sizeLine; decide, fun L hL => q L _ (e1.trans (Ex.new hL)) (by rw [upd_same, due1 n0 fun z => by simp at c z; omega])⟩
    · obtain ⟨a0, dd, rfl, hx, hd⟩ := hu.at h
      refine ite_n (decide_eq_false (by simp; omega)) ⟨_, rfl, rfl, decide (k = 16), congrArg V.bl (eqI k 16), ite_y (decide_eq_true c) ?_⟩
      refine ⟨_, rfl, a0, C, dd, fs, _, rfl, hx, h.1, h.2.1, hd, h.2.2, _, rfl, a0, C, dd, fs, _, rfl, hx, h2.1, h2.2.1, hd, h2.2.2, by show 2 ≤ sizeLine; decide, fun L hL => q L _ (e1.trans (Ex.new hL)) (by rw [upd_same, due2 (.inl c)])⟩
    · obtain ⟨a0, dd, rfl, hx, hd⟩ := hu.at h
      refine ite_n (decide_eq_false (by simp; omega)) ⟨_, rfl, rfl, decide (k = 16), congrArg V.bl (eqI k 16), ite_n (decide_eq_false (by first | omega | (simp at c; omega))) ⟨_, rfl, rfl, decide (k = 17), congrArg V.bl (eqI k 17), ite_y (decide_eq_true c) ?_⟩⟩
      refine ⟨_, rfl, a0, C, dd, fs, _, rfl, hx, h.1, h.2.1, hd, h.2.2, _, rfl, a0, C, dd, fs, _, rfl, hx, h2.1, h2.2.1, hd, h2.2.2, by show 2 ≤ sizeLine; decide, fun L hL => q L _ (e1.trans (Ex.new hL)) (by rw [upd_same, due2 (.inr c)])⟩
    · refine ite_n (decide_eq_false (by simp at c ⊢; omega)) ⟨_, rfl, rfl, decide (k = 16), congrArg V.bl (eqI k 16), ite_n (decide_eq_false (by first | omega | (simp at c; omega))) ⟨_, rfl, rfl, decide (k = 17), congrArg V.bl (eqI k 17), ite_n (decide_eq_false (by first | omega | (simp at c; omega))) ⟨_, rfl, by show 4 ≤ sizeLine; decide, fun L2 hL2 => ⟨L2, _, rfl, .inl (sq_of upd_same), rfl, rfl, decide (k ∈ [23, 24, 25, 26]), congrArg V.bl (inI k [23, 24, 25, 26]), ?_⟩⟩⟩⟩
      have e2 := e1.trans (Ex.new (o := .lst [.int 23, .int 24, .int 25, .int 26]) hL2)
      have hu := hu.mono (Ex.new (o := .lst [.int 23, .int 24, .int 25, .int 26]) hL2)
      generalize upd H1 L2 _ = H2 at e2 hu ⊢
      obtain ⟨a0, dd, rfl, hx, hd⟩ := hu.at h
      refine ite_y (decide_eq_true (by simp at c ⊢; omega)) ?_
      refine ⟨_, rfl, a0, C, dd, fs, _, rfl, hx, h.1, h.2.1, hd, h.2.2, by show 1 ≤ sizeLine; decide, fun L hL => q L _ (e2.trans (Ex.new hL)) (by rw [upd_same, due1 n0 fun z => by simp at c z; omega])⟩
    · refine ite_n (decide_eq_false (by simp at c ⊢; omega)) ⟨_, rfl, rfl, decide (k = 16), congrArg V.bl (eqI k 16), ite_n (decide_eq_false (by first | omega | (simp at c; omega))) ⟨_, rfl, rfl, decide (k = 17), congrArg V.bl (eqI k 17), ite_n (decide_eq_false (by first | omega | (simp at c; omega))) ⟨_, rfl, by show 4 ≤ sizeLine; decide, fun L2 hL2 => ⟨L2, _, rfl, .inl (sq_of upd_same), rfl, rfl, decide (k ∈ [23, 24, 25, 26]), congrArg V.bl (inI k [23, 24, 25, 26]), ?_⟩⟩⟩⟩
      have e2 := e1.trans (Ex.new (o := .lst [.int 23, .int 24, .int 25, .int 26]) hL2)
      have hu := hu.mono (Ex.new (o := .lst [.int 23, .int 24, .int 25, .int 26]) hL2)
      generalize upd H1 L2 _ = H2 at e2 hu ⊢
      obtain ⟨a0, dd, rfl, hx, hd⟩ := hu.at h
      refine ite_n (decide_eq_false (by simp at c ⊢; omega)) ?_
      refine ⟨_, rfl, a0, C, dd, fs, _, rfl, hx, h.1, h.2.1, hd, h.2.2, by show 1 ≤ sizeLine; decide, fun L hL => q L _ (e2.trans (Ex.new hL)) (by rw [upd_same, due1 n0 fun z => by simp at c z; omega])⟩
end
end Eyes

set_option Elab.async false
set_option linter.all false
set_option maxRecDepth 100000
set_option maxHeartbeats 8000000
/-! The errors, raised. -/
namespace Eyes
open PySem PySem.Spec PyProof.Rows L2 Evl TL
def ixE (k : Nat) : Nat := [0, 16, 13, 17, 24, 26, 30, 25, 31].getD k 0
def spRaise (AA : Adr) : Sp := fun vs H Q E => ∃ (k : Nat) (a b : V), k < 9 ∧ vs = [.int k, a, b] ∧ ∀ H2 C d fs, Ex H H2 → (rowsE AA a b)[ixE k]? = some (C, fs) → (fs = [] ∨ ∃ dd, d = some dd ∧ H2 dd = some (.xd fs)) → E (.ref C) d H2
theorem ex_gone {H G : Hp} {a : Addr} (na : H a = none) (e : Ex H G) : Ex H (delH G a) := fun b o z => by
  have hb : b ≠ a := fun y => by
    rw [y, na] at z
    cases z
  rw [delH_ne hb]
  exact e b o z
section
variable {P : Program} {w : World} {K : PySem.W.Frag} {mg : Str → Option Value} {base : Heap} {AA : Adr}
theorem ok_law_raise (T : Txt K mg AA) : PrX P w K mg base "_law_raise" s_law_raise p_law_raise 4 (spRaise AA) := by
  refine prx_mk T.f_law_raise sc_law_raise (fun vs H Q E h => ?_) (fun f cdv A outer s H vs Q E hr h tk => ?_)
  · obtain ⟨k, a, b, _, rfl, _⟩ := h
    rfl
  · obtain ⟨k, a, b, hk, rfl, q⟩ := h
    refine ⟨_, (pss_cons (ps_if (pt_cmpR op_eq (pv 0) pe_int (nomark _))
      (pss_one (ps_raise rfl tk (pmk_val rfl (pmkE T.m_InvalidName T.t_InvalidName PySem.F.excBase_ValueError (fun _ _ F b => ok_InvalidName___init T F b) hr (pa_cons (pv 1) pa_nil)))))
      pss_nil)
      (pss_cons (ps_if (pt_cmpR op_eq (pv 0) pe_int (nomark _))
      (pss_one (ps_raise rfl tk (pmk_val rfl (pmkE T.m_TooMany T.t_TooMany PySem.F.excBase_ValueError (fun _ _ F b => ok_TooMany___init T F b) hr (pa_cons (pv 1) (pa_cons (pv 2) pa_nil))))))
      pss_nil)
      (pss_cons (ps_if (pt_cmpR op_eq (pv 0) pe_int (nomark _))
      (pss_one (ps_raise rfl tk (pmk_ret rfl (pe_exc0 PySem.F.excBase_ValueError T.z_InvalidEyes.exc T.m_InvalidEyes T.z_InvalidEyes.kC (by rfl)))))
      pss_nil)
      (pss_cons (ps_if (pt_cmpR op_eq (pv 0) pe_int (nomark _))
      (pss_one (ps_raise rfl tk (pmk_val rfl (pmkEK T.m_NotAlike T.t_NotAlike PySem.F.excBase_ValueError (fun _ _ F b => ok_NotAlike___init T F b) kwe_NotAlike_other_one hr (pk_cons (pv 2) (pk_cons (pv 1) pk_nil))))))
      pss_nil)
      (pss_cons (ps_if (pt_cmpR op_eq (pv 0) pe_int (nomark _))
      (pss_one (ps_raise rfl tk (pmk_val rfl (pmkEK T.m_InUse T.t_InUse PySem.F.excBase_ValueError (fun _ _ F b => ok_InUse___init T F b) kwe_InUse_name hr (pk_cons (pv 1) pk_nil)))))
      pss_nil)
      (pss_cons (ps_if (pt_cmpR op_eq (pv 0) pe_int (nomark _))
      (pss_one (ps_raise rfl tk (pmk_val rfl (pmkE T.m_UnknownEye T.t_UnknownEye PySem.F.excBase_LookupError (fun _ _ F b => ok_UnknownEye___init T F b) hr (pa_cons (pv 1) pa_nil)))))
      pss_nil)
      (pss_cons (ps_if (pt_cmpR op_eq (pv 0) pe_int (nomark _))
      (pss_one (ps_raise rfl tk (pmk_val rfl (pmkEK T.m_UnknownSaying T.t_UnknownSaying PySem.F.excBase_LookupError (fun _ _ F b => ok_UnknownSaying___init T F b) kwe_UnknownSaying_at hr (pk_cons (pv 1) pk_nil)))))
      pss_nil)
      (pss_cons (ps_if (pt_cmpR op_eq (pv 0) pe_int (nomark _))
      (pss_one (ps_raise rfl tk (pmk_val rfl (pmkEK T.m_UnknownName T.t_UnknownName PySem.F.excBase_LookupError (fun _ _ F b => ok_UnknownName___init T F b) kwe_UnknownName_name hr (pk_cons (pv 1) pk_nil)))))
      pss_nil)
      (pss_one (ps_raise rfl tk (pmk_ret rfl (pe_exc0 PySem.F.excBase_IndexError T.z_NothingLeft.exc T.m_NothingLeft T.z_NothingLeft.kC (by rfl))))))))))))), ?_⟩
    rcases Decidable.em (k = 0) with c0 | c0
    · subst c0
      refine ⟨_, rfl, rfl, true, rfl, ite_y rfl ?_⟩
      refine ⟨_, rfl, by show 1 ≤ 1000; decide, fun a0 na => ⟨a0, _, rfl, upd_same, fun d nd ne => ?_⟩⟩
      rw [upd_ne ne] at nd
      refine ⟨rfl, d, _, upd_same, (upd_ne ne).trans upd_same, nd, ?_⟩
      rw [made_to ne]
      refine ⟨a0, _, d, rfl, (upd_ne (Ne.symm ne)).trans upd_same, fr0_none na, raises_own T.t_InvalidName.oex.exC T.t_InvalidName.oex.tyC, ?_⟩
      exact q _ _ _ _ (ex_gone na ((Ex.new na).trans (Ex.new ((upd_ne ne).trans nd)))) rfl (.inr ⟨d, rfl, (delH_ne ne).trans upd_same⟩)
    refine ⟨_, rfl, rfl, decide (k = 0), congrArg V.bl (eqI k 0), ite_n (decide_eq_false c0) ?_⟩
    rcases Decidable.em (k = 1) with c1 | c1
    · subst c1
      refine ⟨_, rfl, rfl, true, rfl, ite_y rfl ?_⟩
      refine ⟨_, rfl, _, rfl, by show 2 ≤ 1000; decide, fun a0 na => ⟨a0, _, _, rfl, upd_same, fun d nd ne => ?_⟩⟩
      rw [upd_ne ne] at nd
      refine ⟨rfl, d, _, (upd_ne ne.symm).trans upd_same, upd_same, nd, ?_⟩
      rw [made_to2 ne]
      refine ⟨a0, _, d, rfl, (upd_ne (Ne.symm ne)).trans upd_same, fr0_none na, raises_own T.t_TooMany.oex.exC T.t_TooMany.oex.tyC, ?_⟩
      exact q _ _ _ _ (ex_gone na ((Ex.new na).trans (Ex.new ((upd_ne ne).trans nd)))) rfl (.inr ⟨d, rfl, (delH_ne ne).trans upd_same⟩)
    refine ⟨_, rfl, rfl, decide (k = 1), congrArg V.bl (eqI k 1), ite_n (decide_eq_false c1) ?_⟩
    rcases Decidable.em (k = 2) with c2 | c2
    · subst c2
      refine ⟨_, rfl, rfl, true, rfl, ite_y rfl ?_⟩
      refine fun a0 na => ⟨a0, _, rfl, upd_same, fr0_none na, raises_own T.z_InvalidEyes.exC T.z_InvalidEyes.tyC, ?_⟩
      rw [delH_new na]
      exact q _ _ _ _ (fun _ _ z => z) rfl (.inl rfl)
    refine ⟨_, rfl, rfl, decide (k = 2), congrArg V.bl (eqI k 2), ite_n (decide_eq_false c2) ?_⟩
    rcases Decidable.em (k = 3) with c3 | c3
    · subst c3
      refine ⟨_, rfl, rfl, true, rfl, ite_y rfl ?_⟩
      refine ⟨_, rfl, _, rfl, rfl, fun a0 na => ⟨a0, _, _, rfl, upd_same, fun d nd ne => ?_⟩⟩
      rw [upd_ne ne] at nd
      refine ⟨rfl, d, _, (upd_ne ne.symm).trans upd_same, upd_same, nd, ?_⟩
      rw [made_to2 ne]
      refine ⟨a0, _, d, rfl, (upd_ne (Ne.symm ne)).trans upd_same, fr0_none na, raises_own T.t_NotAlike.oex.exC T.t_NotAlike.oex.tyC, ?_⟩
      exact q _ _ _ _ (ex_gone na ((Ex.new na).trans (Ex.new ((upd_ne ne).trans nd)))) rfl (.inr ⟨d, rfl, (delH_ne ne).trans upd_same⟩)
    refine ⟨_, rfl, rfl, decide (k = 3), congrArg V.bl (eqI k 3), ite_n (decide_eq_false c3) ?_⟩
    rcases Decidable.em (k = 4) with c4 | c4
    · subst c4
      refine ⟨_, rfl, rfl, true, rfl, ite_y rfl ?_⟩
      refine ⟨_, rfl, rfl, fun a0 na => ⟨a0, _, rfl, upd_same, fun d nd ne => ?_⟩⟩
      rw [upd_ne ne] at nd
      refine ⟨rfl, d, _, upd_same, (upd_ne ne).trans upd_same, nd, ?_⟩
      rw [made_to ne]
      refine ⟨a0, _, d, rfl, (upd_ne (Ne.symm ne)).trans upd_same, fr0_none na, raises_own T.t_InUse.oex.exC T.t_InUse.oex.tyC, ?_⟩
      exact q _ _ _ _ (ex_gone na ((Ex.new na).trans (Ex.new ((upd_ne ne).trans nd)))) rfl (.inr ⟨d, rfl, (delH_ne ne).trans upd_same⟩)
    refine ⟨_, rfl, rfl, decide (k = 4), congrArg V.bl (eqI k 4), ite_n (decide_eq_false c4) ?_⟩
    rcases Decidable.em (k = 5) with c5 | c5
    · subst c5
      refine ⟨_, rfl, rfl, true, rfl, ite_y rfl ?_⟩
      refine ⟨_, rfl, by show 1 ≤ 1000; decide, fun a0 na => ⟨a0, _, rfl, upd_same, fun d nd ne => ?_⟩⟩
      rw [upd_ne ne] at nd
      refine ⟨rfl, d, _, upd_same, (upd_ne ne).trans upd_same, nd, ?_⟩
      rw [made_to ne]
      refine ⟨a0, _, d, rfl, (upd_ne (Ne.symm ne)).trans upd_same, fr0_none na, raises_own T.t_UnknownEye.oex.exC T.t_UnknownEye.oex.tyC, ?_⟩
      exact q _ _ _ _ (ex_gone na ((Ex.new na).trans (Ex.new ((upd_ne ne).trans nd)))) rfl (.inr ⟨d, rfl, (delH_ne ne).trans upd_same⟩)
    refine ⟨_, rfl, rfl, decide (k = 5), congrArg V.bl (eqI k 5), ite_n (decide_eq_false c5) ?_⟩
    rcases Decidable.em (k = 6) with c6 | c6
    · subst c6
      refine ⟨_, rfl, rfl, true, rfl, ite_y rfl ?_⟩
      refine ⟨_, rfl, rfl, fun a0 na => ⟨a0, _, rfl, upd_same, fun d nd ne => ?_⟩⟩
      rw [upd_ne ne] at nd
      refine ⟨rfl, d, _, upd_same, (upd_ne ne).trans upd_same, nd, ?_⟩
      rw [made_to ne]
      refine ⟨a0, _, d, rfl, (upd_ne (Ne.symm ne)).trans upd_same, fr0_none na, raises_own T.t_UnknownSaying.oex.exC T.t_UnknownSaying.oex.tyC, ?_⟩
      exact q _ _ _ _ (ex_gone na ((Ex.new na).trans (Ex.new ((upd_ne ne).trans nd)))) rfl (.inr ⟨d, rfl, (delH_ne ne).trans upd_same⟩)
    refine ⟨_, rfl, rfl, decide (k = 6), congrArg V.bl (eqI k 6), ite_n (decide_eq_false c6) ?_⟩
    rcases Decidable.em (k = 7) with c7 | c7
    · subst c7
      refine ⟨_, rfl, rfl, true, rfl, ite_y rfl ?_⟩
      refine ⟨_, rfl, rfl, fun a0 na => ⟨a0, _, rfl, upd_same, fun d nd ne => ?_⟩⟩
      rw [upd_ne ne] at nd
      refine ⟨rfl, d, _, upd_same, (upd_ne ne).trans upd_same, nd, ?_⟩
      rw [made_to ne]
      refine ⟨a0, _, d, rfl, (upd_ne (Ne.symm ne)).trans upd_same, fr0_none na, raises_own T.t_UnknownName.oex.exC T.t_UnknownName.oex.tyC, ?_⟩
      exact q _ _ _ _ (ex_gone na ((Ex.new na).trans (Ex.new ((upd_ne ne).trans nd)))) rfl (.inr ⟨d, rfl, (delH_ne ne).trans upd_same⟩)
    refine ⟨_, rfl, rfl, decide (k = 7), congrArg V.bl (eqI k 7), ite_n (decide_eq_false c7) ?_⟩
    · obtain rfl : k = 8 := by omega
      refine fun a0 na => ⟨a0, _, rfl, upd_same, fr0_none na, raises_own T.z_NothingLeft.exC T.z_NothingLeft.tyC, ?_⟩
      rw [delH_new na]
      exact q _ _ _ _ (fun _ _ z => z) rfl (.inl rfl)
end
end Eyes

set_option Elab.async false
set_option linter.all false
set_option maxRecDepth 100000
set_option maxHeartbeats 8000000
/-! What a caught error bears. -/
namespace Eyes
open PySem PySem.Spec PyProof.Rows L2 Evl TL
section
variable {P : Program} {w : World} {K : PySem.W.Frag} {mg : Str → Option Value} {base : Heap} {AA : Adr}
theorem ok_law_fieldsP (T : Txt K mg AA) : PrXP P w K mg base "_law_fields" s_law_fields p_law_fields 2 (fun p => spFields AA [p]) := by
  refine prxp_mk T.f_law_fields sc_law_fields (fun p vs H Q E h => ?_) (fun f cdv A outer s H vs Q E p hr h => ?_)
  · obtain ⟨u, C, fs, k, a, b, rfl, _⟩ := h
    rfl
  · obtain ⟨u, C, fs, k, a, b, rfl, hu, hk, q⟩ := h
    refine ⟨_, (pss_cons (ps_if (pt_cmpR (op_in_seqK (K := K) rfl) (pv 0) (pe_lst (pa_cons pe_int (pa_cons pe_int (pa_cons pe_int (pa_cons pe_int (pa_cons pe_int pa_nil)))))) (by rfl))
      (pss_one (ps_ret (pe_tup pa_nil)))
      pss_nil)
      (pss_cons (ps_if (pt_cmpR (op_in_seqK (K := K) rfl) (pv 0) (pe_lst (pa_cons pe_int (pa_cons pe_int (pa_cons pe_int (pa_cons pe_int pa_nil))))) (by rfl))
      (pss_one (ps_ret (pe_tup (pa_cons (pe_xw (K := K) (pn := [p]) rfl rfl (pv 1)) pa_nil))))
      pss_nil)
      (pss_cons (ps_if (pt_cmpR op_eq (pv 0) pe_int (nomark _))
      (pss_one (ps_ret (pe_tup (pa_cons (pe_xw (K := K) (pn := [p]) rfl rfl (pv 1)) (pa_cons (pe_xw (K := K) (pn := [p]) rfl rfl (pv 1)) pa_nil)))))
      pss_nil)
      (pss_cons (ps_if (pt_cmpR op_eq (pv 0) pe_int (nomark _))
      (pss_one (ps_ret (pe_tup (pa_cons (pe_xw (K := K) (pn := [p]) rfl rfl (pv 1)) (pa_cons (pe_xw (K := K) (pn := [p]) rfl rfl (pv 1)) pa_nil)))))
      pss_nil)
      (pss_one (ps_ret (pe_ifExp (pt_cmpR (op_in_seqK (K := K) rfl) (pv 0) (pe_lst (pa_cons pe_int (pa_cons pe_int (pa_cons pe_int (pa_cons pe_int pa_nil))))) (by rfl)) (pe_tup (pa_cons (pe_xw (K := K) (pn := [p]) rfl rfl (pv 1)) pa_nil)) (pe_tup (pa_cons (pe_xw (K := K) (pn := [p]) rfl rfl (pv 1)) pa_nil))))))))), ?_⟩
    have k32 : k < 32 := (List.getElem?_eq_some_iff.mp hk).1
    refine ⟨_, rfl, by show 5 ≤ sizeLine; decide, fun L0 hL0 => ⟨L0, _, rfl, .inl (sq_of upd_same), rfl, rfl, decide (k ∈ [13, 15, 19, 20, 31]), congrArg V.bl (inI k [13, 15, 19, 20, 31]), ?_⟩⟩
    have e0 := Ex.new (o := .lst [.int 13, .int 15, .int 19, .int 20, .int 31]) hL0
    have hu := hu.mono (Ex.new (o := .lst [.int 13, .int 15, .int 19, .int 20, .int 31]) hL0)
    generalize upd H L0 _ = H0 at e0 hu ⊢
    rcases Decidable.em (k ∈ [13, 15, 19, 20, 31]) with c0 | n0
    · exact ite_y (decide_eq_true c0) ⟨by show 0 ≤ sizeLine; decide, fun L hL => q L _ (e0.trans (Ex.new hL)) (by rw [upd_same, due0 c0])⟩
    refine ite_n (decide_eq_false n0) ⟨_, rfl, by show 4 ≤ sizeLine; decide, fun L1 hL1 => ⟨L1, _, rfl, .inl (sq_of upd_same), rfl, rfl, decide (k ∈ [0, 1, 5, 6]), congrArg V.bl (inI k [0, 1, 5, 6]), ?_⟩⟩
    have e1 := e0.trans (Ex.new (o := .lst [.int 0, .int 1, .int 5, .int 6]) hL1)
    have hu := hu.mono (Ex.new (o := .lst [.int 0, .int 1, .int 5, .int 6]) hL1)
    generalize upd H0 L1 _ = H1 at e1 hu ⊢
    rcases bears T k hk with c | ⟨c, h⟩ | ⟨c, h, h2⟩ | ⟨c, h, h2⟩ | ⟨c, h⟩ | ⟨c, h⟩
    · exact absurd c n0
    · obtain ⟨a0, dd, rfl, hx, hd⟩ := hu.at h
      refine ite_y (decide_eq_true c) ?_
      refine ⟨_, rfl, a0, C, dd, fs, _, rfl, hx, h.1, h.2.1, hd, h.2.2, by show 1 ≤ sizeLine; decide, fun L hL => q L _ (e1.trans (Ex.new hL)) (by rw [upd_same, due1 n0 fun z => by simp at c z; omega])⟩
    · obtain ⟨a0, dd, rfl, hx, hd⟩ := hu.at h
      refine ite_n (decide_eq_false (by simp; omega)) ⟨_, rfl, rfl, decide (k = 16), congrArg V.bl (eqI k 16), ite_y (decide_eq_true c) ?_⟩
      refine ⟨_, rfl, a0, C, dd, fs, _, rfl, hx, h.1, h.2.1, hd, h.2.2, _, rfl, a0, C, dd, fs, _, rfl, hx, h2.1, h2.2.1, hd, h2.2.2, by show 2 ≤ sizeLine; decide, fun L hL => q L _ (e1.trans (Ex.new hL)) (by rw [upd_same, due2 (.inl c)])⟩
    · obtain ⟨a0, dd, rfl, hx, hd⟩ := hu.at h
      refine ite_n (decide_eq_false (by simp; omega)) ⟨_, rfl, rfl, decide (k = 16), congrArg V.bl (eqI k 16), ite_n (decide_eq_false (by first | omega | (simp at c; omega))) ⟨_, rfl, rfl, decide (k = 17), congrArg V.bl (eqI k 17), ite_y (decide_eq_true c) ?_⟩⟩
      refine ⟨_, rfl, a0, C, dd, fs, _, rfl, hx, h.1, h.2.1, hd, h.2.2, _, rfl, a0, C, dd, fs, _, rfl, hx, h2.1, h2.2.1, hd, h2.2.2, by show 2 ≤ sizeLine; decide, fun L hL => q L _ (e1.trans (Ex.new hL)) (by rw [upd_same, due2 (.inr c)])⟩
    · refine ite_n (decide_eq_false (by simp at c ⊢; omega)) ⟨_, rfl, rfl, decide (k = 16), congrArg V.bl (eqI k 16), ite_n (decide_eq_false (by first | omega | (simp at c; omega))) ⟨_, rfl, rfl, decide (k = 17), congrArg V.bl (eqI k 17), ite_n (decide_eq_false (by first | omega | (simp at c; omega))) ⟨_, rfl, by show 4 ≤ sizeLine; decide, fun L2 hL2 => ⟨L2, _, rfl, .inl (sq_of upd_same), rfl, rfl, decide (k ∈ [23, 24, 25, 26]), congrArg V.bl (inI k [23, 24, 25, 26]), ?_⟩⟩⟩⟩
      have e2 := e1.trans (Ex.new (o := .lst [.int 23, .int 24, .int 25, .int 26]) hL2)
      have hu := hu.mono (Ex.new (o := .lst [.int 23, .int 24, .int 25, .int 26]) hL2)
      generalize upd H1 L2 _ = H2 at e2 hu ⊢
      obtain ⟨a0, dd, rfl, hx, hd⟩ := hu.at h
      refine ite_y (decide_eq_true (by simp at c ⊢; omega)) ?_
      refine ⟨_, rfl, a0, C, dd, fs, _, rfl, hx, h.1, h.2.1, hd, h.2.2, by show 1 ≤ sizeLine; decide, fun L hL => q L _ (e2.trans (Ex.new hL)) (by rw [upd_same, due1 n0 fun z => by simp at c z; omega])⟩
    · refine ite_n (decide_eq_false (by simp at c ⊢; omega)) ⟨_, rfl, rfl, decide (k = 16), congrArg V.bl (eqI k 16), ite_n (decide_eq_false (by first | omega | (simp at c; omega))) ⟨_, rfl, rfl, decide (k = 17), congrArg V.bl (eqI k 17), ite_n (decide_eq_false (by first | omega | (simp at c; omega))) ⟨_, rfl, by show 4 ≤ sizeLine; decide, fun L2 hL2 => ⟨L2, _, rfl, .inl (sq_of upd_same), rfl, rfl, decide (k ∈ [23, 24, 25, 26]), congrArg V.bl (inI k [23, 24, 25, 26]), ?_⟩⟩⟩⟩
      have e2 := e1.trans (Ex.new (o := .lst [.int 23, .int 24, .int 25, .int 26]) hL2)
      have hu := hu.mono (Ex.new (o := .lst [.int 23, .int 24, .int 25, .int 26]) hL2)
      generalize upd H1 L2 _ = H2 at e2 hu ⊢
      obtain ⟨a0, dd, rfl, hx, hd⟩ := hu.at h
      refine ite_n (decide_eq_false (by simp at c ⊢; omega)) ?_
      refine ⟨_, rfl, a0, C, dd, fs, _, rfl, hx, h.1, h.2.1, hd, h.2.2, by show 1 ≤ sizeLine; decide, fun L hL => q L _ (e2.trans (Ex.new hL)) (by rw [upd_same, due1 n0 fun z => by simp at c z; omega])⟩
end
end Eyes

set_option Elab.async false
set_option linter.all false
set_option maxRecDepth 100000
set_option maxHeartbeats 8000000
/-! Of which classes an error is. -/
namespace Eyes
open PySem PySem.Spec PyProof.Rows L2 Evl TL
theorem isV_at {H : Hp} {u : V} {C : Addr} {fs : List (Str × V)} (h : ErrV H u C fs) : ∃ (a : Addr) (d : Option Addr), u = .ref a ∧ IsX H a C d ∧ ∀ dd, d = some dd → ∃ o, H dd = some o := by
  obtain ⟨a, rfl, ⟨d, h1, h2⟩ | ⟨h1, _⟩⟩ := h
  · exact ⟨a, some d, rfl, h1, fun dd hd => ⟨_, by cases hd; exact h2⟩⟩
  · exact ⟨a, none, rfl, h1, fun dd hd => nomatch hd⟩
theorem heldD {H G : Hp} {d : Option Addr} (h : ∀ dd, d = some dd → ∃ o, H dd = some o) (e : Ex H G) : ∀ dd, d = some dd → ∃ o, G dd = some o := fun dd z => by
  obtain ⟨o, q⟩ := h dd z
  exact ⟨o, e _ _ q⟩
section
variable {K : PySem.W.Frag} {mg : Str → Option Value} {AA : Adr} {C D : Addr} {k j : Nat}
theorem kt_of (T : Txt K mg AA) (hk : (errsA AA)[k]? = some C) (hj : (errsA AA)[j]? = some D) : PySem.W.kitOne K (.ref C) (.ref D) = some (decide (k = j)) := by
  have h := T.v_ktabB
  unfold ktabB at h
  have h1 := List.all_eq_true.mp h (C, k) (List.mem_zipIdx_iff_getElem?.mpr hk)
  exact of_decide_eq_true (List.all_eq_true.mp h1 (D, j) (List.mem_zipIdx_iff_getElem?.mpr hj))
theorem kb_of (T : Txt K mg AA) {v : Value} (hk : (errsA AA)[k]? = some C) (hj : (basesA AA)[j]? = some v) : PySem.W.kitOne K (.ref C) v = some (dueB k j) := by
  have h := T.v_kbasB
  unfold kbasB at h
  have h1 := List.all_eq_true.mp h (C, k) (List.mem_zipIdx_iff_getElem?.mpr hk)
  exact of_decide_eq_true (List.all_eq_true.mp h1 (v, j) (List.mem_zipIdx_iff_getElem?.mpr hj))
theorem kx_of (T : Txt K mg AA) (hk : (raisedA AA)[k]? = some C) (hj : (handA AA)[j]? = some D) : PySem.W.exmOne K (.ref C) (.ref D) = some (dueX k j) := by
  have h := T.v_kexmB
  unfold kexmB at h
  have h1 := List.all_eq_true.mp h (C, k) (List.mem_zipIdx_iff_getElem?.mpr hk)
  exact of_decide_eq_true (List.all_eq_true.mp h1 (D, j) (List.mem_zipIdx_iff_getElem?.mpr hj))
theorem ec_of (T : Txt K mg AA) : ∀ k : Nat, (errsA AA)[k]? = some C → ExcC K C
  | 0, h => by
    cases h
    exact T.t_InvalidName.ec
  | 1, h => by
    cases h
    exact T.t_InvalidNumber.ec
  | 2, h => by
    cases h
    exact T.t_InvalidText.ec
  | 3, h => by
    cases h
    exact T.t_InvalidCircle.ec
  | 4, h => by
    cases h
    exact T.t_InvalidTie.ec
  | 5, h => by
    cases h
    exact T.t_InvalidParting.ec
  | 6, h => by
    cases h
    exact T.t_InvalidCase.ec
  | 7, h => by
    cases h
    exact T.t_InvalidGrant.ec
  | 8, h => by
    cases h
    exact T.t_InvalidBan.ec
  | 9, h => by
    cases h
    exact T.t_InvalidShare.ec
  | 10, h => by
    cases h
    exact T.t_InvalidSaying.ec
  | 11, h => by
    cases h
    exact T.t_InvalidLog.ec
  | 12, h => by
    cases h
    exact T.t_InvalidLot.ec
  | 13, h => by
    cases h
    exact T.z_InvalidEyes.ec
  | 14, h => by
    cases h
    exact T.t_InvalidDeed.ec
  | 15, h => by
    cases h
    exact T.z_InvalidQuestion.ec
  | 16, h => by
    cases h
    exact T.t_TooMany.ec
  | 17, h => by
    cases h
    exact T.t_NotAlike.ec
  | 18, h => by
    cases h
    exact T.t_CommonShown.ec
  | 19, h => by
    cases h
    exact T.z_NotPooled.ec
  | 20, h => by
    cases h
    exact T.z_UnlikeSketches.ec
  | 21, h => by
    cases h
    exact T.t_NotSafe.ec
  | 22, h => by
    cases h
    exact T.t_CannotStand.ec
  | 23, h => by
    cases h
    exact T.t_NameTaken.ec
  | 24, h => by
    cases h
    exact T.t_InUse.ec
  | 25, h => by
    cases h
    exact T.t_UnknownName.ec
  | 26, h => by
    cases h
    exact T.t_UnknownEye.ec
  | 27, h => by
    cases h
    exact T.t_UnknownGrant.ec
  | 28, h => by
    cases h
    exact T.t_UnknownBan.ec
  | 29, h => by
    cases h
    exact T.t_UnknownShare.ec
  | 30, h => by
    cases h
    exact T.t_UnknownSaying.ec
  | 31, h => by
    cases h
    exact T.z_NothingLeft.ec
  | k + 32, h => by cases h
end
def spKinds (AA : Adr) (js : List Nat) : Sp := fun vs H Q _ => ∃ (u : V) (C : Addr) (fs : List (Str × V)) (k : Nat), vs = [u] ∧ ErrV H u C fs ∧ (errsA AA)[k]? = some C ∧ ∀ L H2, Ex H H2 → H2 L = some (.lst (js.map fun j => .bl (decide (k = j)))) → Q (.ref L) H2
section
variable {P : Program} {w : World} {K : PySem.W.Frag} {mg : Str → Option Value} {base : Heap} {AA : Adr}
theorem ok_law_first_kinds (T : Txt K mg AA) : Pr P w K mg base "_law_first_kinds" s_law_first_kinds p_law_first_kinds 2 (spKinds AA (List.range 16)) := by
  refine pr_mk T.f_law_first_kinds sc_law_first_kinds (fun vs H Q E h => ?_) (fun f cdv A outer s H vs Q E hr h => ?_)
  · obtain ⟨u, C, fs, k, rfl, _⟩ := h
    rfl
  · obtain ⟨u, C, fs, k, rfl, hu, hk, q⟩ := h
    have hec := ec_of T k hk
    obtain ⟨a, d, rfl, hu, hdd⟩ := isV_at hu
    refine ⟨_, (pss_cons (ps_set (i := 1) sc_law_first_kinds.nd rfl (.inl rfl) (pe_lst (pa_cons (pe_callB (call_isV (K := K) rfl) (by rfl) T.n_isinstance PyProof.Rows.boot_isinstance (pa_cons (pv 0) (pa_cons (pe_glob (v := .ref AA.InvalidName) (by rfl) T.m_InvalidName rfl) pa_nil))) (pa_cons (pe_callB (call_isV (K := K) rfl) (by rfl) T.n_isinstance PyProof.Rows.boot_isinstance (pa_cons (pv 0) (pa_cons (pe_glob (v := .ref AA.InvalidNumber) (by rfl) T.m_InvalidNumber rfl) pa_nil))) (pa_cons (pe_callB (call_isV (K := K) rfl) (by rfl) T.n_isinstance PyProof.Rows.boot_isinstance (pa_cons (pv 0) (pa_cons (pe_glob (v := .ref AA.InvalidText) (by rfl) T.m_InvalidText rfl) pa_nil))) (pa_cons (pe_callB (call_isV (K := K) rfl) (by rfl) T.n_isinstance PyProof.Rows.boot_isinstance (pa_cons (pv 0) (pa_cons (pe_glob (v := .ref AA.InvalidCircle) (by rfl) T.m_InvalidCircle rfl) pa_nil))) pa_nil))))))
      (pss_cons (ps_set (i := 1) sc_law_first_kinds.nd rfl (.inl rfl) (pe_op op_cat (pv 1) (pe_lst (pa_cons (pe_callB (call_isV (K := K) rfl) (by rfl) T.n_isinstance PyProof.Rows.boot_isinstance (pa_cons (pv 0) (pa_cons (pe_glob (v := .ref AA.InvalidTie) (by rfl) T.m_InvalidTie rfl) pa_nil))) (pa_cons (pe_callB (call_isV (K := K) rfl) (by rfl) T.n_isinstance PyProof.Rows.boot_isinstance (pa_cons (pv 0) (pa_cons (pe_glob (v := .ref AA.InvalidParting) (by rfl) T.m_InvalidParting rfl) pa_nil))) (pa_cons (pe_callB (call_isV (K := K) rfl) (by rfl) T.n_isinstance PyProof.Rows.boot_isinstance (pa_cons (pv 0) (pa_cons (pe_glob (v := .ref AA.InvalidCase) (by rfl) T.m_InvalidCase rfl) pa_nil))) (pa_cons (pe_callB (call_isV (K := K) rfl) (by rfl) T.n_isinstance PyProof.Rows.boot_isinstance (pa_cons (pv 0) (pa_cons (pe_glob (v := .ref AA.InvalidGrant) (by rfl) T.m_InvalidGrant rfl) pa_nil))) pa_nil)))))))
      (pss_cons (ps_set (i := 1) sc_law_first_kinds.nd rfl (.inl rfl) (pe_op op_cat (pv 1) (pe_lst (pa_cons (pe_callB (call_isV (K := K) rfl) (by rfl) T.n_isinstance PyProof.Rows.boot_isinstance (pa_cons (pv 0) (pa_cons (pe_glob (v := .ref AA.InvalidBan) (by rfl) T.m_InvalidBan rfl) pa_nil))) (pa_cons (pe_callB (call_isV (K := K) rfl) (by rfl) T.n_isinstance PyProof.Rows.boot_isinstance (pa_cons (pv 0) (pa_cons (pe_glob (v := .ref AA.InvalidShare) (by rfl) T.m_InvalidShare rfl) pa_nil))) (pa_cons (pe_callB (call_isV (K := K) rfl) (by rfl) T.n_isinstance PyProof.Rows.boot_isinstance (pa_cons (pv 0) (pa_cons (pe_glob (v := .ref AA.InvalidSaying) (by rfl) T.m_InvalidSaying rfl) pa_nil))) (pa_cons (pe_callB (call_isV (K := K) rfl) (by rfl) T.n_isinstance PyProof.Rows.boot_isinstance (pa_cons (pv 0) (pa_cons (pe_glob (v := .ref AA.InvalidLog) (by rfl) T.m_InvalidLog rfl) pa_nil))) pa_nil)))))))
      (pss_cons (ps_set (i := 1) sc_law_first_kinds.nd rfl (.inl rfl) (pe_op op_cat (pv 1) (pe_lst (pa_cons (pe_callB (call_isV (K := K) rfl) (by rfl) T.n_isinstance PyProof.Rows.boot_isinstance (pa_cons (pv 0) (pa_cons (pe_glob (v := .ref AA.InvalidLot) (by rfl) T.m_InvalidLot rfl) pa_nil))) (pa_cons (pe_callB (call_isV (K := K) rfl) (by rfl) T.n_isinstance PyProof.Rows.boot_isinstance (pa_cons (pv 0) (pa_cons (pe_glob (v := .ref AA.InvalidEyes) (by rfl) T.m_InvalidEyes rfl) pa_nil))) (pa_cons (pe_callB (call_isV (K := K) rfl) (by rfl) T.n_isinstance PyProof.Rows.boot_isinstance (pa_cons (pv 0) (pa_cons (pe_glob (v := .ref AA.InvalidDeed) (by rfl) T.m_InvalidDeed rfl) pa_nil))) (pa_cons (pe_callB (call_isV (K := K) rfl) (by rfl) T.n_isinstance PyProof.Rows.boot_isinstance (pa_cons (pv 0) (pa_cons (pe_glob (v := .ref AA.InvalidQuestion) (by rfl) T.m_InvalidQuestion rfl) pa_nil))) pa_nil)))))))
      (pss_one (ps_ret (pv 1))))))), ?_⟩
    refine ⟨_, rfl, a, C, d, .ref AA.InvalidName, .ref AA.InvalidName, _, rfl, hu, hdd, hec, fun _ z => z, kt_of T hk (j := 0) rfl, ?_⟩
    refine ⟨_, rfl, a, C, d, .ref AA.InvalidNumber, .ref AA.InvalidNumber, _, rfl, hu, hdd, hec, fun _ z => z, kt_of T hk (j := 1) rfl, ?_⟩
    refine ⟨_, rfl, a, C, d, .ref AA.InvalidText, .ref AA.InvalidText, _, rfl, hu, hdd, hec, fun _ z => z, kt_of T hk (j := 2) rfl, ?_⟩
    refine ⟨_, rfl, a, C, d, .ref AA.InvalidCircle, .ref AA.InvalidCircle, _, rfl, hu, hdd, hec, fun _ z => z, kt_of T hk (j := 3) rfl, ?_⟩
    refine ⟨by show 4 ≤ sizeLine; decide, fun L0 hL0 => ?_⟩
    have x0 := Ex.new (o := .lst [.bl (decide (k = 0)), .bl (decide (k = 1)), .bl (decide (k = 2)), .bl (decide (k = 3))]) hL0
    have g0 := upd_same (H := H) (a := L0) (o := HO.lst [.bl (decide (k = 0)), .bl (decide (k = 1)), .bl (decide (k = 2)), .bl (decide (k = 3))])
    have hu := hu.mono x0
    have hdd := heldD hdd x0
    generalize upd H L0 _ = G0 at x0 g0 hu hdd ⊢
    have P0 := g0
    have Y0 := x0
    refine ⟨_, rfl, ?_⟩
    refine ⟨_, rfl, a, C, d, .ref AA.InvalidTie, .ref AA.InvalidTie, _, rfl, hu, hdd, hec, fun _ z => z, kt_of T hk (j := 4) rfl, ?_⟩
    refine ⟨_, rfl, a, C, d, .ref AA.InvalidParting, .ref AA.InvalidParting, _, rfl, hu, hdd, hec, fun _ z => z, kt_of T hk (j := 5) rfl, ?_⟩
    refine ⟨_, rfl, a, C, d, .ref AA.InvalidCase, .ref AA.InvalidCase, _, rfl, hu, hdd, hec, fun _ z => z, kt_of T hk (j := 6) rfl, ?_⟩
    refine ⟨_, rfl, a, C, d, .ref AA.InvalidGrant, .ref AA.InvalidGrant, _, rfl, hu, hdd, hec, fun _ z => z, kt_of T hk (j := 7) rfl, ?_⟩
    refine ⟨by show 4 ≤ sizeLine; decide, fun L1 hL1 => ?_⟩
    have x1 := Ex.new (o := .lst [.bl (decide (k = 4)), .bl (decide (k = 5)), .bl (decide (k = 6)), .bl (decide (k = 7))]) hL1
    have g1 := upd_same (H := G0) (a := L1) (o := HO.lst [.bl (decide (k = 4)), .bl (decide (k = 5)), .bl (decide (k = 6)), .bl (decide (k = 7))])
    have hu := hu.mono x1
    have hdd := heldD hdd x1
    generalize upd G0 L1 _ = G1 at x1 g1 hu hdd ⊢
    refine ⟨L0, L1, _, _, rfl, rfl, x1 _ _ P0, g1, by show 4 + 4 ≤ sizeLine; decide, fun M1 hM1 => ?_⟩
    have z1 := Ex.new (o := .lst ([.bl (decide (k = 0)), .bl (decide (k = 1)), .bl (decide (k = 2)), .bl (decide (k = 3))] ++ [.bl (decide (k = 4)), .bl (decide (k = 5)), .bl (decide (k = 6)), .bl (decide (k = 7))])) hM1
    have P1 := upd_same (H := G1) (a := M1) (o := HO.lst ([.bl (decide (k = 0)), .bl (decide (k = 1)), .bl (decide (k = 2)), .bl (decide (k = 3))] ++ [.bl (decide (k = 4)), .bl (decide (k = 5)), .bl (decide (k = 6)), .bl (decide (k = 7))]))
    have hu := hu.mono z1
    have hdd := heldD hdd z1
    have Y1 := Y0.trans (x1.trans z1)
    generalize upd G1 M1 _ = J1 at z1 P1 hu hdd Y1 ⊢
    refine ⟨_, rfl, ?_⟩
    refine ⟨_, rfl, a, C, d, .ref AA.InvalidBan, .ref AA.InvalidBan, _, rfl, hu, hdd, hec, fun _ z => z, kt_of T hk (j := 8) rfl, ?_⟩
    refine ⟨_, rfl, a, C, d, .ref AA.InvalidShare, .ref AA.InvalidShare, _, rfl, hu, hdd, hec, fun _ z => z, kt_of T hk (j := 9) rfl, ?_⟩
    refine ⟨_, rfl, a, C, d, .ref AA.InvalidSaying, .ref AA.InvalidSaying, _, rfl, hu, hdd, hec, fun _ z => z, kt_of T hk (j := 10) rfl, ?_⟩
    refine ⟨_, rfl, a, C, d, .ref AA.InvalidLog, .ref AA.InvalidLog, _, rfl, hu, hdd, hec, fun _ z => z, kt_of T hk (j := 11) rfl, ?_⟩
    refine ⟨by show 4 ≤ sizeLine; decide, fun L2 hL2 => ?_⟩
    have x2 := Ex.new (o := .lst [.bl (decide (k = 8)), .bl (decide (k = 9)), .bl (decide (k = 10)), .bl (decide (k = 11))]) hL2
    have g2 := upd_same (H := J1) (a := L2) (o := HO.lst [.bl (decide (k = 8)), .bl (decide (k = 9)), .bl (decide (k = 10)), .bl (decide (k = 11))])
    have hu := hu.mono x2
    have hdd := heldD hdd x2
    generalize upd J1 L2 _ = G2 at x2 g2 hu hdd ⊢
    refine ⟨M1, L2, _, _, rfl, rfl, x2 _ _ P1, g2, by show 8 + 4 ≤ sizeLine; decide, fun M2 hM2 => ?_⟩
    have z2 := Ex.new (o := .lst ([.bl (decide (k = 0)), .bl (decide (k = 1)), .bl (decide (k = 2)), .bl (decide (k = 3))] ++ [.bl (decide (k = 4)), .bl (decide (k = 5)), .bl (decide (k = 6)), .bl (decide (k = 7))] ++ [.bl (decide (k = 8)), .bl (decide (k = 9)), .bl (decide (k = 10)), .bl (decide (k = 11))])) hM2
    have P2 := upd_same (H := G2) (a := M2) (o := HO.lst ([.bl (decide (k = 0)), .bl (decide (k = 1)), .bl (decide (k = 2)), .bl (decide (k = 3))] ++ [.bl (decide (k = 4)), .bl (decide (k = 5)), .bl (decide (k = 6)), .bl (decide (k = 7))] ++ [.bl (decide (k = 8)), .bl (decide (k = 9)), .bl (decide (k = 10)), .bl (decide (k = 11))]))
    have hu := hu.mono z2
    have hdd := heldD hdd z2
    have Y2 := Y1.trans (x2.trans z2)
    generalize upd G2 M2 _ = J2 at z2 P2 hu hdd Y2 ⊢
    refine ⟨_, rfl, ?_⟩
    refine ⟨_, rfl, a, C, d, .ref AA.InvalidLot, .ref AA.InvalidLot, _, rfl, hu, hdd, hec, fun _ z => z, kt_of T hk (j := 12) rfl, ?_⟩
    refine ⟨_, rfl, a, C, d, .ref AA.InvalidEyes, .ref AA.InvalidEyes, _, rfl, hu, hdd, hec, fun _ z => z, kt_of T hk (j := 13) rfl, ?_⟩
    refine ⟨_, rfl, a, C, d, .ref AA.InvalidDeed, .ref AA.InvalidDeed, _, rfl, hu, hdd, hec, fun _ z => z, kt_of T hk (j := 14) rfl, ?_⟩
    refine ⟨_, rfl, a, C, d, .ref AA.InvalidQuestion, .ref AA.InvalidQuestion, _, rfl, hu, hdd, hec, fun _ z => z, kt_of T hk (j := 15) rfl, ?_⟩
    refine ⟨by show 4 ≤ sizeLine; decide, fun L3 hL3 => ?_⟩
    have x3 := Ex.new (o := .lst [.bl (decide (k = 12)), .bl (decide (k = 13)), .bl (decide (k = 14)), .bl (decide (k = 15))]) hL3
    have g3 := upd_same (H := J2) (a := L3) (o := HO.lst [.bl (decide (k = 12)), .bl (decide (k = 13)), .bl (decide (k = 14)), .bl (decide (k = 15))])
    have hu := hu.mono x3
    have hdd := heldD hdd x3
    generalize upd J2 L3 _ = G3 at x3 g3 hu hdd ⊢
    refine ⟨M2, L3, _, _, rfl, rfl, x3 _ _ P2, g3, by show 12 + 4 ≤ sizeLine; decide, fun M3 hM3 => ?_⟩
    have z3 := Ex.new (o := .lst ([.bl (decide (k = 0)), .bl (decide (k = 1)), .bl (decide (k = 2)), .bl (decide (k = 3))] ++ [.bl (decide (k = 4)), .bl (decide (k = 5)), .bl (decide (k = 6)), .bl (decide (k = 7))] ++ [.bl (decide (k = 8)), .bl (decide (k = 9)), .bl (decide (k = 10)), .bl (decide (k = 11))] ++ [.bl (decide (k = 12)), .bl (decide (k = 13)), .bl (decide (k = 14)), .bl (decide (k = 15))])) hM3
    have P3 := upd_same (H := G3) (a := M3) (o := HO.lst ([.bl (decide (k = 0)), .bl (decide (k = 1)), .bl (decide (k = 2)), .bl (decide (k = 3))] ++ [.bl (decide (k = 4)), .bl (decide (k = 5)), .bl (decide (k = 6)), .bl (decide (k = 7))] ++ [.bl (decide (k = 8)), .bl (decide (k = 9)), .bl (decide (k = 10)), .bl (decide (k = 11))] ++ [.bl (decide (k = 12)), .bl (decide (k = 13)), .bl (decide (k = 14)), .bl (decide (k = 15))]))
    have hu := hu.mono z3
    have hdd := heldD hdd z3
    have Y3 := Y2.trans (x3.trans z3)
    generalize upd G3 M3 _ = J3 at z3 P3 hu hdd Y3 ⊢
    exact ⟨_, rfl, q M3 _ Y3 P3⟩
theorem ok_law_last_kinds (T : Txt K mg AA) : Pr P w K mg base "_law_last_kinds" s_law_last_kinds p_law_last_kinds 2 (spKinds AA (List.range' 16 16)) := by
  refine pr_mk T.f_law_last_kinds sc_law_last_kinds (fun vs H Q E h => ?_) (fun f cdv A outer s H vs Q E hr h => ?_)
  · obtain ⟨u, C, fs, k, rfl, _⟩ := h
    rfl
  · obtain ⟨u, C, fs, k, rfl, hu, hk, q⟩ := h
    have hec := ec_of T k hk
    obtain ⟨a, d, rfl, hu, hdd⟩ := isV_at hu
    refine ⟨_, (pss_cons (ps_set (i := 1) sc_law_last_kinds.nd rfl (.inl rfl) (pe_lst (pa_cons (pe_callB (call_isV (K := K) rfl) (by rfl) T.n_isinstance PyProof.Rows.boot_isinstance (pa_cons (pv 0) (pa_cons (pe_glob (v := .ref AA.TooMany) (by rfl) T.m_TooMany rfl) pa_nil))) (pa_cons (pe_callB (call_isV (K := K) rfl) (by rfl) T.n_isinstance PyProof.Rows.boot_isinstance (pa_cons (pv 0) (pa_cons (pe_glob (v := .ref AA.NotAlike) (by rfl) T.m_NotAlike rfl) pa_nil))) (pa_cons (pe_callB (call_isV (K := K) rfl) (by rfl) T.n_isinstance PyProof.Rows.boot_isinstance (pa_cons (pv 0) (pa_cons (pe_glob (v := .ref AA.CommonShown) (by rfl) T.m_CommonShown rfl) pa_nil))) (pa_cons (pe_callB (call_isV (K := K) rfl) (by rfl) T.n_isinstance PyProof.Rows.boot_isinstance (pa_cons (pv 0) (pa_cons (pe_glob (v := .ref AA.NotPooled) (by rfl) T.m_NotPooled rfl) pa_nil))) pa_nil))))))
      (pss_cons (ps_set (i := 1) sc_law_last_kinds.nd rfl (.inl rfl) (pe_op op_cat (pv 1) (pe_lst (pa_cons (pe_callB (call_isV (K := K) rfl) (by rfl) T.n_isinstance PyProof.Rows.boot_isinstance (pa_cons (pv 0) (pa_cons (pe_glob (v := .ref AA.UnlikeSketches) (by rfl) T.m_UnlikeSketches rfl) pa_nil))) (pa_cons (pe_callB (call_isV (K := K) rfl) (by rfl) T.n_isinstance PyProof.Rows.boot_isinstance (pa_cons (pv 0) (pa_cons (pe_glob (v := .ref AA.NotSafe) (by rfl) T.m_NotSafe rfl) pa_nil))) (pa_cons (pe_callB (call_isV (K := K) rfl) (by rfl) T.n_isinstance PyProof.Rows.boot_isinstance (pa_cons (pv 0) (pa_cons (pe_glob (v := .ref AA.CannotStand) (by rfl) T.m_CannotStand rfl) pa_nil))) (pa_cons (pe_callB (call_isV (K := K) rfl) (by rfl) T.n_isinstance PyProof.Rows.boot_isinstance (pa_cons (pv 0) (pa_cons (pe_glob (v := .ref AA.NameTaken) (by rfl) T.m_NameTaken rfl) pa_nil))) pa_nil)))))))
      (pss_cons (ps_set (i := 1) sc_law_last_kinds.nd rfl (.inl rfl) (pe_op op_cat (pv 1) (pe_lst (pa_cons (pe_callB (call_isV (K := K) rfl) (by rfl) T.n_isinstance PyProof.Rows.boot_isinstance (pa_cons (pv 0) (pa_cons (pe_glob (v := .ref AA.InUse) (by rfl) T.m_InUse rfl) pa_nil))) (pa_cons (pe_callB (call_isV (K := K) rfl) (by rfl) T.n_isinstance PyProof.Rows.boot_isinstance (pa_cons (pv 0) (pa_cons (pe_glob (v := .ref AA.UnknownName) (by rfl) T.m_UnknownName rfl) pa_nil))) (pa_cons (pe_callB (call_isV (K := K) rfl) (by rfl) T.n_isinstance PyProof.Rows.boot_isinstance (pa_cons (pv 0) (pa_cons (pe_glob (v := .ref AA.UnknownEye) (by rfl) T.m_UnknownEye rfl) pa_nil))) (pa_cons (pe_callB (call_isV (K := K) rfl) (by rfl) T.n_isinstance PyProof.Rows.boot_isinstance (pa_cons (pv 0) (pa_cons (pe_glob (v := .ref AA.UnknownGrant) (by rfl) T.m_UnknownGrant rfl) pa_nil))) pa_nil)))))))
      (pss_one (ps_ret (pe_op op_cat (pv 1) (pe_lst (pa_cons (pe_callB (call_isV (K := K) rfl) (by rfl) T.n_isinstance PyProof.Rows.boot_isinstance (pa_cons (pv 0) (pa_cons (pe_glob (v := .ref AA.UnknownBan) (by rfl) T.m_UnknownBan rfl) pa_nil))) (pa_cons (pe_callB (call_isV (K := K) rfl) (by rfl) T.n_isinstance PyProof.Rows.boot_isinstance (pa_cons (pv 0) (pa_cons (pe_glob (v := .ref AA.UnknownShare) (by rfl) T.m_UnknownShare rfl) pa_nil))) (pa_cons (pe_callB (call_isV (K := K) rfl) (by rfl) T.n_isinstance PyProof.Rows.boot_isinstance (pa_cons (pv 0) (pa_cons (pe_glob (v := .ref AA.UnknownSaying) (by rfl) T.m_UnknownSaying rfl) pa_nil))) (pa_cons (pe_callB (call_isV (K := K) rfl) (by rfl) T.n_isinstance PyProof.Rows.boot_isinstance (pa_cons (pv 0) (pa_cons (pe_glob (v := .ref AA.NothingLeft) (by rfl) T.m_NothingLeft rfl) pa_nil))) pa_nil))))))))))), ?_⟩
    refine ⟨_, rfl, a, C, d, .ref AA.TooMany, .ref AA.TooMany, _, rfl, hu, hdd, hec, fun _ z => z, kt_of T hk (j := 16) rfl, ?_⟩
    refine ⟨_, rfl, a, C, d, .ref AA.NotAlike, .ref AA.NotAlike, _, rfl, hu, hdd, hec, fun _ z => z, kt_of T hk (j := 17) rfl, ?_⟩
    refine ⟨_, rfl, a, C, d, .ref AA.CommonShown, .ref AA.CommonShown, _, rfl, hu, hdd, hec, fun _ z => z, kt_of T hk (j := 18) rfl, ?_⟩
    refine ⟨_, rfl, a, C, d, .ref AA.NotPooled, .ref AA.NotPooled, _, rfl, hu, hdd, hec, fun _ z => z, kt_of T hk (j := 19) rfl, ?_⟩
    refine ⟨by show 4 ≤ sizeLine; decide, fun L0 hL0 => ?_⟩
    have x0 := Ex.new (o := .lst [.bl (decide (k = 16)), .bl (decide (k = 17)), .bl (decide (k = 18)), .bl (decide (k = 19))]) hL0
    have g0 := upd_same (H := H) (a := L0) (o := HO.lst [.bl (decide (k = 16)), .bl (decide (k = 17)), .bl (decide (k = 18)), .bl (decide (k = 19))])
    have hu := hu.mono x0
    have hdd := heldD hdd x0
    generalize upd H L0 _ = G0 at x0 g0 hu hdd ⊢
    have P0 := g0
    have Y0 := x0
    refine ⟨_, rfl, ?_⟩
    refine ⟨_, rfl, a, C, d, .ref AA.UnlikeSketches, .ref AA.UnlikeSketches, _, rfl, hu, hdd, hec, fun _ z => z, kt_of T hk (j := 20) rfl, ?_⟩
    refine ⟨_, rfl, a, C, d, .ref AA.NotSafe, .ref AA.NotSafe, _, rfl, hu, hdd, hec, fun _ z => z, kt_of T hk (j := 21) rfl, ?_⟩
    refine ⟨_, rfl, a, C, d, .ref AA.CannotStand, .ref AA.CannotStand, _, rfl, hu, hdd, hec, fun _ z => z, kt_of T hk (j := 22) rfl, ?_⟩
    refine ⟨_, rfl, a, C, d, .ref AA.NameTaken, .ref AA.NameTaken, _, rfl, hu, hdd, hec, fun _ z => z, kt_of T hk (j := 23) rfl, ?_⟩
    refine ⟨by show 4 ≤ sizeLine; decide, fun L1 hL1 => ?_⟩
    have x1 := Ex.new (o := .lst [.bl (decide (k = 20)), .bl (decide (k = 21)), .bl (decide (k = 22)), .bl (decide (k = 23))]) hL1
    have g1 := upd_same (H := G0) (a := L1) (o := HO.lst [.bl (decide (k = 20)), .bl (decide (k = 21)), .bl (decide (k = 22)), .bl (decide (k = 23))])
    have hu := hu.mono x1
    have hdd := heldD hdd x1
    generalize upd G0 L1 _ = G1 at x1 g1 hu hdd ⊢
    refine ⟨L0, L1, _, _, rfl, rfl, x1 _ _ P0, g1, by show 4 + 4 ≤ sizeLine; decide, fun M1 hM1 => ?_⟩
    have z1 := Ex.new (o := .lst ([.bl (decide (k = 16)), .bl (decide (k = 17)), .bl (decide (k = 18)), .bl (decide (k = 19))] ++ [.bl (decide (k = 20)), .bl (decide (k = 21)), .bl (decide (k = 22)), .bl (decide (k = 23))])) hM1
    have P1 := upd_same (H := G1) (a := M1) (o := HO.lst ([.bl (decide (k = 16)), .bl (decide (k = 17)), .bl (decide (k = 18)), .bl (decide (k = 19))] ++ [.bl (decide (k = 20)), .bl (decide (k = 21)), .bl (decide (k = 22)), .bl (decide (k = 23))]))
    have hu := hu.mono z1
    have hdd := heldD hdd z1
    have Y1 := Y0.trans (x1.trans z1)
    generalize upd G1 M1 _ = J1 at z1 P1 hu hdd Y1 ⊢
    refine ⟨_, rfl, ?_⟩
    refine ⟨_, rfl, a, C, d, .ref AA.InUse, .ref AA.InUse, _, rfl, hu, hdd, hec, fun _ z => z, kt_of T hk (j := 24) rfl, ?_⟩
    refine ⟨_, rfl, a, C, d, .ref AA.UnknownName, .ref AA.UnknownName, _, rfl, hu, hdd, hec, fun _ z => z, kt_of T hk (j := 25) rfl, ?_⟩
    refine ⟨_, rfl, a, C, d, .ref AA.UnknownEye, .ref AA.UnknownEye, _, rfl, hu, hdd, hec, fun _ z => z, kt_of T hk (j := 26) rfl, ?_⟩
    refine ⟨_, rfl, a, C, d, .ref AA.UnknownGrant, .ref AA.UnknownGrant, _, rfl, hu, hdd, hec, fun _ z => z, kt_of T hk (j := 27) rfl, ?_⟩
    refine ⟨by show 4 ≤ sizeLine; decide, fun L2 hL2 => ?_⟩
    have x2 := Ex.new (o := .lst [.bl (decide (k = 24)), .bl (decide (k = 25)), .bl (decide (k = 26)), .bl (decide (k = 27))]) hL2
    have g2 := upd_same (H := J1) (a := L2) (o := HO.lst [.bl (decide (k = 24)), .bl (decide (k = 25)), .bl (decide (k = 26)), .bl (decide (k = 27))])
    have hu := hu.mono x2
    have hdd := heldD hdd x2
    generalize upd J1 L2 _ = G2 at x2 g2 hu hdd ⊢
    refine ⟨M1, L2, _, _, rfl, rfl, x2 _ _ P1, g2, by show 8 + 4 ≤ sizeLine; decide, fun M2 hM2 => ?_⟩
    have z2 := Ex.new (o := .lst ([.bl (decide (k = 16)), .bl (decide (k = 17)), .bl (decide (k = 18)), .bl (decide (k = 19))] ++ [.bl (decide (k = 20)), .bl (decide (k = 21)), .bl (decide (k = 22)), .bl (decide (k = 23))] ++ [.bl (decide (k = 24)), .bl (decide (k = 25)), .bl (decide (k = 26)), .bl (decide (k = 27))])) hM2
    have P2 := upd_same (H := G2) (a := M2) (o := HO.lst ([.bl (decide (k = 16)), .bl (decide (k = 17)), .bl (decide (k = 18)), .bl (decide (k = 19))] ++ [.bl (decide (k = 20)), .bl (decide (k = 21)), .bl (decide (k = 22)), .bl (decide (k = 23))] ++ [.bl (decide (k = 24)), .bl (decide (k = 25)), .bl (decide (k = 26)), .bl (decide (k = 27))]))
    have hu := hu.mono z2
    have hdd := heldD hdd z2
    have Y2 := Y1.trans (x2.trans z2)
    generalize upd G2 M2 _ = J2 at z2 P2 hu hdd Y2 ⊢
    refine ⟨_, rfl, ?_⟩
    refine ⟨_, rfl, a, C, d, .ref AA.UnknownBan, .ref AA.UnknownBan, _, rfl, hu, hdd, hec, fun _ z => z, kt_of T hk (j := 28) rfl, ?_⟩
    refine ⟨_, rfl, a, C, d, .ref AA.UnknownShare, .ref AA.UnknownShare, _, rfl, hu, hdd, hec, fun _ z => z, kt_of T hk (j := 29) rfl, ?_⟩
    refine ⟨_, rfl, a, C, d, .ref AA.UnknownSaying, .ref AA.UnknownSaying, _, rfl, hu, hdd, hec, fun _ z => z, kt_of T hk (j := 30) rfl, ?_⟩
    refine ⟨_, rfl, a, C, d, .ref AA.NothingLeft, .ref AA.NothingLeft, _, rfl, hu, hdd, hec, fun _ z => z, kt_of T hk (j := 31) rfl, ?_⟩
    refine ⟨by show 4 ≤ sizeLine; decide, fun L3 hL3 => ?_⟩
    have x3 := Ex.new (o := .lst [.bl (decide (k = 28)), .bl (decide (k = 29)), .bl (decide (k = 30)), .bl (decide (k = 31))]) hL3
    have g3 := upd_same (H := J2) (a := L3) (o := HO.lst [.bl (decide (k = 28)), .bl (decide (k = 29)), .bl (decide (k = 30)), .bl (decide (k = 31))])
    have hu := hu.mono x3
    have hdd := heldD hdd x3
    generalize upd J2 L3 _ = G3 at x3 g3 hu hdd ⊢
    refine ⟨M2, L3, _, _, rfl, rfl, x3 _ _ P2, g3, by show 12 + 4 ≤ sizeLine; decide, fun M3 hM3 => ?_⟩
    exact q M3 _ (Y2.trans (x3.trans (Ex.new hM3))) upd_same
end
end Eyes

set_option Elab.async false
set_option linter.all false
set_option maxRecDepth 100000
set_option maxHeartbeats 8000000
/-! The errors, caught. -/
namespace Eyes
open PySem PySem.Spec PyProof.Rows L2 Evl TL
theorem roomS {k : Nat} {A : Around} {x : Option Value} (r : Room k A) : L2H.RoomH k (A.mark x) := ⟨r.dp, r.un⟩
theorem pss_all {X : Cx} {ss : List Stmt} {t : Obj → TS} {φ : Obj → Prop} {oe : Obj} (hφ : φ oe) (h : PSs X ss (t oe)) : PSs X ss (fun D σ H => ∀ o, φ o → t o D σ H) := ⟨fun pins s σ H D I z => h.run pins s σ H D I (z oe hφ)⟩
theorem pe_xs {X : Cx} {K : PySem.W.Frag} {pn : List (Addr × Obj)} {e : Expr} {i : Nat} {n : Str} {pos : Pos} (hK : X.K = K) (hp : ∀ p ∈ pn, p ∈ X.pn) (he : PE X e (tVar i)) (hb : attributeBase e n X.env (eval e X.env) = eval e X.env := by rfl) : PE X (.Attribute e n pos) (tXw K pn n (tVar i)) := by
  refine ⟨fun pins s σ H Q I h => (pe_xw hK rfl he hb).run pins s σ H Q I ?_⟩
  obtain ⟨v, hv, a, C, dd, fs, u, rfl, hx, z⟩ := h
  refine ⟨_, hv, a, C, dd, fs, u, rfl, ?_, z⟩
  rcases hx with hx | ⟨p, vs, hm, y⟩
  · exact .inl hx
  · exact .inr ⟨p, vs, hp p hm, y⟩
def baseE (k : Nat) : Str := if k < 5 then "pooled" else if k = 8 then "left" else "missing"
def spCaught : Sp := fun vs H Q _ => ∃ (k : Nat) (a b : V), k < 9 ∧ vs = [.int k, a, b] ∧ ∀ L M H2, Ex H H2 → H2 M = some (.tup (dueF (ixE k) a b)) → H2 L = some (.tup [.str (baseE k), .int (ixE k : Nat), .ref M]) → Q (.ref L) H2
theorem at9 : ∀ k : Nat, k < 9 → ([.int 0, .int 16, .int 13, .int 17, .int 24, .int 26, .int 30, .int 25, .int 31] : List V)[k]? = some (.int (ixE k : Nat))
  | 0, _ => rfl
  | 1, _ => rfl
  | 2, _ => rfl
  | 3, _ => rfl
  | 4, _ => rfl
  | 5, _ => rfl
  | 6, _ => rfl
  | 7, _ => rfl
  | 8, _ => rfl
  | k + 9, h => absurd h (by omega)
theorem raised_at {AA : Adr} {a b : V} {C : Addr} {fs : List (Str × V)} : ∀ k : Nat, k < 9 → (rowsE AA a b)[ixE k]? = some (C, fs) → (raisedA AA)[k]? = some C
  | 0, _, h => by cases h; rfl
  | 1, _, h => by cases h; rfl
  | 2, _, h => by cases h; rfl
  | 3, _, h => by cases h; rfl
  | 4, _, h => by cases h; rfl
  | 5, _, h => by cases h; rfl
  | 6, _, h => by cases h; rfl
  | 7, _, h => by cases h; rfl
  | 8, _, h => by cases h; rfl
  | k + 9, h, _ => absurd h (by omega)
theorem exm1 {K : PySem.W.Frag} {cls c : Value} {b : Bool} (h : PySem.W.exmOne K cls c = some b) : PySem.W.exmAny K cls [c] = some (b || false) := by
  unfold PySem.W.exmAny
  rw [h] <;> rfl
theorem exmC {K : PySem.W.Frag} {cls c : Value} {r : List Value} {b d : Bool} (h : PySem.W.exmOne K cls c = some b) (g : PySem.W.exmAny K cls r = some d) : PySem.W.exmAny K cls (c :: r) = some (b || d) := by
  unfold PySem.W.exmAny
  rw [h, g]
theorem caughtW {H : Hp} {e C : Addr} {d : Option Addr} {fs : List (Str × V)} {o : Obj} (hz : Zc (.ref C) d o) (hv : ∃ vs, o.data = .fields vs) (hd : fs = [] ∨ ∃ dd, d = some dd ∧ H dd = some (.xd fs)) : ErrW [(e, o)] H (.ref e) C fs := by
  obtain ⟨vs, hv⟩ := hv
  rcases hd with rfl | ⟨dd, rfl, hx⟩
  · exact ⟨e, rfl, .inl rfl⟩
  · exact ⟨e, rfl, .inr ⟨dd, .inr ⟨(e, o), vs, List.mem_singleton.mpr rfl, rfl, hz, hv⟩, hx⟩⟩
def ItsV (k : Nat) (a : V) (H : Hp) (v : V) : Prop := if k = 5 then ∃ L, v = .ref L ∧ H L = some (.lst [.int 5, a]) else v = .int (if k < 3 then 0 else if k < 5 then 3 else if k < 8 then 6 else 8)
def spItself : Sp := fun vs H Q _ => ∃ (k : Nat) (a b : V), k < 9 ∧ vs = [.int k, a, b] ∧ ∀ v H2, Ex H H2 → ItsV k a H2 v → Q v H2
section
variable {P : Program} {w : World} {K : PySem.W.Frag} {mg : Str → Option Value} {base : Heap} {AA : Adr}
theorem ok_law_caught (T : Txt K mg AA) : Pr P w K mg base "_law_caught" s_law_caught p_law_caught 6 spCaught := by
  refine pr_mk T.f_law_caught sc_law_caught (fun vs H Q E h => ?_) (fun f cdv A outer s H vs Q E hr h => ?_)
  · obtain ⟨k, a, b, _, rfl, _⟩ := h
    rfl
  · obtain ⟨k, a, b, hk, rfl, q⟩ := h
    refine ⟨_, (pss_cons (ps_set (i := 3) sc_law_caught.nd rfl (.inl rfl) (pe_ix (ix_listK (K := K) rfl) (pe_lst (pa_cons pe_int (pa_cons pe_int (pa_cons pe_int (pa_cons pe_int (pa_cons pe_int (pa_cons pe_int (pa_cons pe_int (pa_cons pe_int (pa_cons pe_int pa_nil)))))))))) (pv 0) (fun _ _ => rfl)))
      (pss_cons (ps_tryG rfl rfl sc_law_caught.nd (fun W pn xe tk po => (pss_one (ps_expr (pcallX (ok_law_raise T) hr tk (pa_cons (pv 0) (pa_cons (pv 1) (pa_cons (pv 2) pa_nil)))))))
      (.as (j := 4) (tells_one ⟨by rfl, by decide, .inl T.m_PooledError⟩) rfl rfl (fun e0 oe cls d pn hz hf => pss_all (φ := fun o => Zc cls d o ∧ ∃ fs, o.data = .fields fs) ⟨hz, hf⟩
      (pss_one (ps_ret (pe_tup (pa_cons pe_str (pa_cons (pv 3) (pa_cons (pcallP (ok_law_fieldsP T) List.mem_cons_self (roomS hr) (pa_cons (pv 3) (pa_cons (pv 4) pa_nil))) pa_nil)))))))
      (.as (j := 5) (tells_one ⟨by rfl, by decide, .inl T.m_Missing⟩) rfl rfl (fun e0 oe cls d pn hz hf => pss_all (φ := fun o => Zc cls d o ∧ ∃ fs, o.data = .fields fs) ⟨hz, hf⟩
      (pss_one (ps_ret (pe_tup (pa_cons pe_str (pa_cons (pv 3) (pa_cons (pcallP (ok_law_fieldsP T) List.mem_cons_self (roomS hr) (pa_cons (pv 3) (pa_cons (pv 5) pa_nil))) pa_nil)))))))
      (.as (j := 6) (tells_one ⟨by rfl, by decide, .inl T.m_NothingLeft⟩) rfl rfl (fun e0 oe cls d pn hz hf => pss_all (φ := fun o => Zc cls d o ∧ ∃ fs, o.data = .fields fs) ⟨hz, hf⟩
      (pss_one (ps_ret (pe_tup (pa_cons pe_str (pa_cons (pv 3) (pa_cons (pcallP (ok_law_fieldsP T) List.mem_cons_self (roomS hr) (pa_cons (pv 3) (pa_cons (pv 6) pa_nil))) pa_nil)))))))
      .rest))))
      (pss_one (ps_ret (pe_tup (pa_cons pe_str (pa_cons (pv 3) (pa_cons (pe_tup pa_nil) pa_nil)))))))), ?_⟩
    refine ⟨by show 9 ≤ sizeLine; decide, fun L0 hL0 => ⟨_, rfl, L0, _, _, .int (ixE k : Nat), rfl, rfl, sq_of upd_same, atI_nat (at9 k hk), ?_⟩⟩
    have e0 := Ex.new (o := .lst [.int 0, .int 16, .int 13, .int 17, .int 24, .int 26, .int 30, .int 25, .int 31]) hL0
    generalize upd H L0 _ = H0 at e0 ⊢
    refine ⟨_, rfl, _, rfl, _, rfl, k, a, b, hk, rfl, fun H2 C d fs e2 hrow hd => ?_⟩
    have kx : ∀ {j : Nat} {D : Addr}, (handA AA)[j]? = some D → PySem.W.exmOne K (.ref C) (.ref D) = some (dueX k j) := fun z => kx_of T (raised_at k hk hrow) z
    refine ⟨_, exm1 (kx (j := 0) rfl), fun y => ?_, fun y0 => ⟨_, exm1 (kx (j := 1) rfl), fun y => ?_, fun y1 => ⟨_, exm1 (kx (j := 2) rfl), fun y => ?_, fun y2 => ?_⟩⟩⟩
    · refine fun e he o ⟨hz, hv⟩ => ⟨_, rfl, _, rfl, _, rfl, _, C, fs, ixE k, a, b, rfl, caughtW hz hv hd, hrow, fun M H3 e3 hM => ⟨by show 3 ≤ sizeLine; decide, fun L hL => ?_⟩⟩
      refine q L M _ ((e0.trans e2).trans (e3.trans (Ex.new hL))) ((Ex.new hL) _ _ hM) ?_
      rw [upd_same]
      have hb : baseE k = "pooled" := by
        have z : k < 5 := by simpa [dueX] using y
        exact if_pos z
      rw [hb]
    · refine fun e he o ⟨hz, hv⟩ => ⟨_, rfl, _, rfl, _, rfl, _, C, fs, ixE k, a, b, rfl, caughtW hz hv hd, hrow, fun M H3 e3 hM => ⟨by show 3 ≤ sizeLine; decide, fun L hL => ?_⟩⟩
      refine q L M _ ((e0.trans e2).trans (e3.trans (Ex.new hL))) ((Ex.new hL) _ _ hM) ?_
      rw [upd_same]
      have hb : baseE k = "missing" := by
        have z : 5 ≤ k ∧ k < 8 := by simpa [dueX] using y
        unfold baseE
        rw [if_neg (by omega), if_neg (by omega)]
      rw [hb]
    · refine fun e he o ⟨hz, hv⟩ => ⟨_, rfl, _, rfl, _, rfl, _, C, fs, ixE k, a, b, rfl, caughtW hz hv hd, hrow, fun M H3 e3 hM => ⟨by show 3 ≤ sizeLine; decide, fun L hL => ?_⟩⟩
      refine q L M _ ((e0.trans e2).trans (e3.trans (Ex.new hL))) ((Ex.new hL) _ _ hM) ?_
      rw [upd_same]
      have hb : baseE k = "left" := by
        have z : k = 8 := by simpa [dueX] using y
        subst z
        rfl
      rw [hb]
    · have z0 : ¬ k < 5 := by simpa [dueX] using y0
      have z1 : ¬ (5 ≤ k ∧ k < 8) := by simpa [dueX] using y1
      have z2 : ¬ k = 8 := by simpa [dueX] using y2
      omega
theorem ok_law_caught_itself (T : Txt K mg AA) : Pr P w K mg base "_law_caught_itself" s_law_caught_itself p_law_caught_itself 6 spItself := by
  refine pr_mk T.f_law_caught_itself sc_law_caught_itself (fun vs H Q E h => ?_) (fun f cdv A outer s H vs Q E hr h => ?_)
  · obtain ⟨k, a, b, _, rfl, _⟩ := h
    rfl
  · obtain ⟨k, a, b, hk, rfl, q⟩ := h
    refine ⟨_, (pss_cons (ps_tryG rfl rfl sc_law_caught_itself.nd (fun W pn xe tk po => (pss_one (ps_expr (pcallX (ok_law_raise T) hr tk (pa_cons (pv 0) (pa_cons (pv 1) (pa_cons (pv 2) pa_nil)))))))
      (.no (tells_three (by rfl) (by rfl) (by rfl) T.m_InvalidName T.m_TooMany T.m_InvalidEyes) (fun e0 oe cls d pn hz hf => pss_all (φ := fun o => Zc cls d o ∧ ∃ fs, o.data = .fields fs) ⟨hz, hf⟩
      (pss_one (ps_ret pe_int)))
      (.no (tells_two (by rfl) (by rfl) T.m_NotAlike T.m_InUse) (fun e0 oe cls d pn hz hf => pss_all (φ := fun o => Zc cls d o ∧ ∃ fs, o.data = .fields fs) ⟨hz, hf⟩
      (pss_one (ps_ret pe_int)))
      (.as (j := 3) (tells_one ⟨by rfl, by decide, .inl T.m_UnknownEye⟩) rfl rfl (fun e0 oe cls d pn hz hf => pss_all (φ := fun o => Zc cls d o ∧ ∃ fs, o.data = .fields fs) ⟨hz, hf⟩
      (pss_one (ps_ret (pe_lst (pa_cons pe_int (pa_cons (pe_xs (K := K) (pn := [(e0, oe)]) rfl (fun _ z => List.mem_cons.mpr (.inl (List.mem_singleton.mp z))) (pv 3)) pa_nil))))))
      (.no (tells_two (by rfl) (by rfl) T.m_UnknownSaying T.m_UnknownName) (fun e0 oe cls d pn hz hf => pss_all (φ := fun o => Zc cls d o ∧ ∃ fs, o.data = .fields fs) ⟨hz, hf⟩
      (pss_one (ps_ret pe_int)))
      (.no (tells_one ⟨by rfl, by decide, .inl T.m_NothingLeft⟩) (fun e0 oe cls d pn hz hf => pss_all (φ := fun o => Zc cls d o ∧ ∃ fs, o.data = .fields fs) ⟨hz, hf⟩
      (pss_one (ps_ret pe_int)))
      .rest))))))
      (pss_one (ps_ret (pe_un un_neg pe_int)))), ?_⟩
    refine ⟨_, rfl, _, rfl, _, rfl, k, a, b, hk, rfl, fun H2 C d fs e2 hrow hd => ?_⟩
    have kx : ∀ {j : Nat} {D : Addr}, (handA AA)[j]? = some D → PySem.W.exmOne K (.ref C) (.ref D) = some (dueX k j) := fun z => kx_of T (raised_at k hk hrow) z
    refine ⟨_, exmC (kx (j := 3) rfl) (exmC (kx (j := 4) rfl) (exm1 (kx (j := 5) rfl))), fun y e he o _ => ?_, fun y0 => ⟨_, exmC (kx (j := 6) rfl) (exm1 (kx (j := 7) rfl)), fun y e he o _ => ?_, fun y1 => ⟨_, exm1 (kx (j := 8) rfl), fun y e he o ⟨hz, hv⟩ => ?_, fun y2 => ⟨_, exmC (kx (j := 9) rfl) (exm1 (kx (j := 10) rfl)), fun y e he o _ => ?_, fun y3 => ⟨_, exm1 (kx (j := 2) rfl), fun y e he o _ => ?_, fun y4 => ?_⟩⟩⟩⟩⟩
    · have z : k = 0 ∨ k = 1 ∨ k = 2 := by simpa [dueX] using y
      refine q _ _ e2 ?_
      rcases z with rfl | rfl | rfl <;> rfl
    · have z : k = 3 ∨ k = 4 := by simpa [dueX] using y
      refine q _ _ e2 ?_
      rcases z with rfl | rfl <;> rfl
    · have z : k = 5 := by simpa [dueX] using y
      subst z
      cases hrow
      obtain ⟨a0, dd, h0, hx, hdd⟩ := (caughtW (e := e) hz hv hd).at (K := K) (f := "name") (v := a) ⟨T.t_UnknownEye.xf, T.a_UnknownEye_name, rfl⟩
      cases h0
      refine ⟨_, rfl, e, _, dd, _, a, rfl, hx, T.t_UnknownEye.xf, T.a_UnknownEye_name, hdd, rfl, by show 2 ≤ sizeLine; decide, fun L hL => ?_⟩
      exact q _ _ (e2.trans (Ex.new hL)) ⟨L, rfl, upd_same⟩
    · have z : k = 6 ∨ k = 7 := by simpa [dueX] using y
      refine q _ _ e2 ?_
      rcases z with rfl | rfl <;> rfl
    · have z : k = 8 := by simpa [dueX] using y
      refine q _ _ e2 ?_
      subst z
      rfl
    · have z : ¬ k = 0 ∧ ¬ k = 1 ∧ ¬ k = 2 := by simpa [dueX] using y0
      have z1 : ¬ k = 3 ∧ ¬ k = 4 := by simpa [dueX] using y1
      have z2 : ¬ k = 5 := by simpa [dueX] using y2
      have z3 : ¬ k = 6 ∧ ¬ k = 7 := by simpa [dueX] using y3
      have z4 : ¬ k = 8 := by simpa [dueX] using y4
      omega
end
end Eyes

set_option Elab.async false
set_option linter.all false
set_option maxRecDepth 100000
set_option maxHeartbeats 8000000
/-! The things that errors bear. -/
namespace Eyes
open PySem PySem.Spec PyProof.Rows L2 Evl TL
def Th (H : Hp) (v : V) : Prop := ∃ d, Rep H v d ∧ d.depth < 5 ∧ wid d ≤ 90000
theorem Th.mono {H G : Hp} {v : V} (h : Th H v) (e : Ex H G) : Th G v := by
  obtain ⟨d, r, z⟩ := h
  exact ⟨d, r.mono e, z⟩
def spThing : Sp := fun vs H Q _ => ∃ (b : Addr) (G : Hp), vs = [.ref b] ∧ At b G H ∧ ∀ v G1 H1, Ex G G1 → At b G1 H1 → Th G1 v → Q v H1
section
variable {P : Program} {w : World} {K : PySem.W.Frag} {mg : Str → Option Value} {base : Heap} {AA : Adr}
theorem ok_law_thing (T : Txt K mg AA) : Pr P w K mg base "_law_thing" s_law_thing p_law_thing 3 spThing := by
  refine pr_mk T.f_law_thing sc_law_thing (fun vs H Q E h => ?_) (fun f cdv A outer s H vs Q E hr h => ?_)
  · obtain ⟨b, G, rfl, _⟩ := h
    rfl
  · obtain ⟨b, G, rfl, h0, q⟩ := h
    refine ⟨_, (pss_one (ps_ret (pcall (ok_law_of T) hr (pa_cons (pv 0) (pa_cons (pe_lst (pa_cons pe_non (pa_cons pe_bl (pa_cons pe_bl (pa_cons pe_int (pa_cons (pe_un un_neg pe_int) (pa_cons pe_int (pa_cons pe_str (pa_cons pe_str (pa_cons pe_str (pa_cons pe_str (pa_cons (pe_tup (pa_cons pe_str (pa_cons pe_int (pa_cons pe_int pa_nil)))) (pa_cons (pe_lst (pa_cons pe_int (pa_cons (pe_lst (pa_cons pe_str pa_nil)) pa_nil))) (pa_cons (pe_tup pa_nil) (pa_cons (pe_lst pa_nil) (pa_cons (pcall (ok_law_draw T) hr (pa_cons (pv 0) (pa_cons (pe_op op_pow pe_int pe_int) pa_nil))) (pa_cons (pe_un un_neg pe_int) (pa_cons (pe_tup (pa_cons pe_str (pa_cons pe_bl (pa_cons pe_int pa_nil)))) (pa_cons (pe_lst (pa_cons (pe_lst pa_nil) pa_nil)) (pa_cons pe_str pa_nil)))))))))))))))))))) pa_nil))))), ?_⟩
    refine ⟨_, rfl, 1, rfl, by show 3 ≤ sizeLine; decide, fun p1 f1 => ?_⟩
    have h1 := h0.new (o := .tup [.str "a", .int 1, .int 2]) f1
    have x1 := Ex.new (H := G) (o := .tup [.str "a", .int 1, .int 2]) (h0.nh f1)
    have g1 := upd_same (H := G) (a := p1) (o := HO.tup [.str "a", .int 1, .int 2])
    generalize upd G p1 _ = G1 at h1 x1 g1
    generalize upd H p1 _ = H1 at h1 ⊢
    refine ⟨by show 1 ≤ sizeLine; decide, fun p2 f2 => ?_⟩
    have h2 := h1.new (o := .lst [.str "x"]) f2
    have x2 := Ex.new (H := G1) (o := .lst [.str "x"]) (h1.nh f2)
    have g2 := upd_same (H := G1) (a := p2) (o := HO.lst [.str "x"])
    generalize upd G1 p2 _ = G2 at h2 x2 g2
    generalize upd H1 p2 _ = H2 at h2 ⊢
    refine ⟨by show 2 ≤ sizeLine; decide, fun p3 f3 => ?_⟩
    have h3 := h2.new (o := .lst [.int 1, .ref p2]) f3
    have x3 := Ex.new (H := G2) (o := .lst [.int 1, .ref p2]) (h2.nh f3)
    have g3 := upd_same (H := G2) (a := p3) (o := HO.lst [.int 1, .ref p2])
    generalize upd G2 p3 _ = G3 at h3 x3 g3
    generalize upd H2 p3 _ = H3 at h3 ⊢
    refine ⟨by show 0 ≤ sizeLine; decide, fun p4 f4 => ?_⟩
    have h4 := h3.new (o := .tup []) f4
    have x4 := Ex.new (H := G3) (o := .tup []) (h3.nh f4)
    have g4 := upd_same (H := G3) (a := p4) (o := HO.tup [])
    generalize upd G3 p4 _ = G4 at h4 x4 g4
    generalize upd H3 p4 _ = H4 at h4 ⊢
    refine ⟨by show 0 ≤ sizeLine; decide, fun p5 f5 => ?_⟩
    have h5 := h4.new (o := .lst []) f5
    have x5 := Ex.new (H := G4) (o := .lst []) (h4.nh f5)
    have g5 := upd_same (H := G4) (a := p5) (o := HO.lst [])
    generalize upd G4 p5 _ = G5 at h5 x5 g5
    generalize upd H4 p5 _ = H5 at h5 ⊢
    refine ⟨_, rfl, 10, 9, rfl, rfl, ⟨by decide, by decide, by decide⟩, b, _, G5, rfl, h5, by decide, by decide, fun r H6 r0 r1 h6 => ?_⟩
    clear h5
    refine ⟨999999999, rfl, by show 3 ≤ sizeLine; decide, fun p7 f7 => ?_⟩
    have h7 := h6.new (o := .tup [.str "x", .bl true, .int 1]) f7
    have x7 := Ex.new (H := G5) (o := .tup [.str "x", .bl true, .int 1]) (h6.nh f7)
    have g7 := upd_same (H := G5) (a := p7) (o := HO.tup [.str "x", .bl true, .int 1])
    generalize upd G5 p7 _ = G7 at h7 x7 g7
    generalize upd H6 p7 _ = H7 at h7 ⊢
    refine ⟨by show 0 ≤ sizeLine; decide, fun p8 f8 => ?_⟩
    have h8 := h7.new (o := .lst []) f8
    have x8 := Ex.new (H := G7) (o := .lst []) (h7.nh f8)
    have g8 := upd_same (H := G7) (a := p8) (o := HO.lst [])
    generalize upd G7 p8 _ = G8 at h8 x8 g8
    generalize upd H7 p8 _ = H8 at h8 ⊢
    refine ⟨by show 1 ≤ sizeLine; decide, fun p9 f9 => ?_⟩
    have h9 := h8.new (o := .lst [.ref p8]) f9
    have x9 := Ex.new (H := G8) (o := .lst [.ref p8]) (h8.nh f9)
    have g9 := upd_same (H := G8) (a := p9) (o := HO.lst [.ref p8])
    generalize upd G8 p9 _ = G9 at h9 x9 g9
    generalize upd H8 p9 _ = H9 at h9 ⊢
    refine ⟨by show 19 ≤ sizeLine; decide, fun p10 f10 => ?_⟩
    have h10 := h9.new (o := .lst [.non, .bl true, .bl false, .int 0, .int (-1), .int 1, .str "", .str "a", .str "a b", .str "eyes", .ref p1, .ref p3, .ref p4, .ref p5, .int r, .int (-999999999), .ref p7, .ref p9, .str "a & b"]) f10
    have x10 := Ex.new (H := G9) (o := .lst [.non, .bl true, .bl false, .int 0, .int (-1), .int 1, .str "", .str "a", .str "a b", .str "eyes", .ref p1, .ref p3, .ref p4, .ref p5, .int r, .int (-999999999), .ref p7, .ref p9, .str "a & b"]) (h9.nh f10)
    have g10 := upd_same (H := G9) (a := p10) (o := HO.lst [.non, .bl true, .bl false, .int 0, .int (-1), .int 1, .str "", .str "a", .str "a b", .str "eyes", .ref p1, .ref p3, .ref p4, .ref p5, .int r, .int (-999999999), .ref p7, .ref p9, .str "a & b"])
    generalize upd G9 p10 _ = G10 at h10 x10 g10
    generalize upd H9 p10 _ = H10 at h10 ⊢
    have y9 : Ex G9 G10 := x10
    have y8 := x9.trans y9
    have y7 := x8.trans y8
    have y5 := x7.trans y7
    have y4 := x5.trans y5
    have y3 := x4.trans y4
    have y2 := x3.trans y3
    have y1 := x2.trans y2
    have y0 := x1.trans y1
    refine ⟨b, _, G10, [.non, .bl true, .bl false, .int 0, .int (-1), .int 1, .str "", .str "a", .str "a b", .str "eyes", .ref p1, .ref p3, .ref p4, .ref p5, .int r, .int (-999999999), .ref p7, .ref p9, .str "a & b"], rfl, h10, .inl ⟨_, rfl, sq_of g10⟩, by show 0 < 19; decide, by show 19 < 1073741824; decide, fun v H11 hv h11 => q v G10 H11 y0 h11 ?_⟩
    simp only [List.mem_cons, List.not_mem_nil, or_false] at hv
    rcases hv with rfl | rfl | rfl | rfl | rfl | rfl | rfl | rfl | rfl | rfl | rfl | rfl | rfl | rfl | rfl | rfl | rfl | rfl | rfl
    · exact ⟨_, .non, by first | decide | (simp [PyData.depth]), by first | decide | (simp [wid])⟩
    · exact ⟨_, .bl _, by first | decide | (simp [PyData.depth]), by first | decide | (simp [wid])⟩
    · exact ⟨_, .bl _, by first | decide | (simp [PyData.depth]), by first | decide | (simp [wid])⟩
    · exact ⟨_, .int _, by first | decide | (simp [PyData.depth]), by first | decide | (simp [wid])⟩
    · exact ⟨_, .int _, by first | decide | (simp [PyData.depth]), by first | decide | (simp [wid])⟩
    · exact ⟨_, .int _, by first | decide | (simp [PyData.depth]), by first | decide | (simp [wid])⟩
    · exact ⟨_, .str _, by first | decide | (simp [PyData.depth]), by first | decide | (simp [wid])⟩
    · exact ⟨_, .str _, by first | decide | (simp [PyData.depth]), by first | decide | (simp [wid])⟩
    · exact ⟨_, .str _, by first | decide | (simp [PyData.depth]), by first | decide | (simp [wid])⟩
    · exact ⟨_, .str _, by first | decide | (simp [PyData.depth]), by first | decide | (simp [wid])⟩
    · exact ⟨_, .tup (y1 _ _ g1) (.cons (.str _) (.cons (.int _) (.cons (.int _) .nil))), by first | decide | (simp [PyData.depth]), by first | decide | (simp [wid])⟩
    · exact ⟨_, .lst (y3 _ _ g3) (.cons (.int _) (.cons (.lst (y2 _ _ g2) (.cons (.str _) .nil)) .nil)), by first | decide | (simp [PyData.depth]), by first | decide | (simp [wid])⟩
    · exact ⟨_, .tup (y4 _ _ g4) .nil, by first | decide | (simp [PyData.depth]), by first | decide | (simp [wid])⟩
    · exact ⟨_, .lst (y5 _ _ g5) .nil, by first | decide | (simp [PyData.depth]), by first | decide | (simp [wid])⟩
    · exact ⟨_, .int _, by first | decide | (simp [PyData.depth]), by first | decide | (simp [wid])⟩
    · exact ⟨_, .int _, by first | decide | (simp [PyData.depth]), by first | decide | (simp [wid])⟩
    · exact ⟨_, .tup (y7 _ _ g7) (.cons (.str _) (.cons (.bl _) (.cons (.int _) .nil))), by first | decide | (simp [PyData.depth]), by first | decide | (simp [wid])⟩
    · exact ⟨_, .lst (y9 _ _ g9) (.cons (.lst (y8 _ _ g8) .nil) .nil), by first | decide | (simp [PyData.depth]), by first | decide | (simp [wid])⟩
    · exact ⟨_, .str _, by first | decide | (simp [PyData.depth]), by first | decide | (simp [wid])⟩
end
end Eyes

set_option Elab.async false
set_option linter.all false
set_option maxRecDepth 100000
set_option maxHeartbeats 8000000
/-! The errors made are so. -/
namespace Eyes
open PySem PySem.Spec PyProof.Rows L2 Evl TL
theorem shaped_bools (l : List Bool) : SeqAt.shaped (.list (l.map PyData.bool)) = true := by
  have h1 : PyData.canLay0 (.list (l.map PyData.bool)) = true := by
    show PyData.canLayAll0 _ = true
    induction l with
    | nil => rfl
    | cons c l ih =>
      show (PyData.canLay0 (.bool _) && PyData.canLayAll0 (l.map PyData.bool)) = true
      rw [ih, Bool.and_true]
      rfl
  have h2 : PyData.depth (.list (l.map PyData.bool)) ≤ 64 := by
    have : PyData.depthAll (l.map PyData.bool) = 0 := by
      clear h1
      induction l with
      | nil => rfl
      | cons c l ih =>
        show max (PyData.depth (.bool _)) _ = 0
        rw [ih]
        rfl
    show PyData.depthAll _ + 1 ≤ 64
    rw [this]
    decide
  unfold SeqAt.shaped
  rw [h1, decide_eq_true h2]
  rfl
theorem eqv_bools (l : List Bool) : PyData.eqv (.list (l.map PyData.bool)) (.list (l.map PyData.bool)) = true := by
  show PyData.eqvAll (l.map PyData.bool) (l.map PyData.bool) = true
  induction l with
  | nil => rfl
  | cons c l ih =>
    show ((c == c) && PyData.eqvAll (l.map PyData.bool) (l.map PyData.bool)) = true
    rw [ih, beq_self_eq_true]
    rfl
theorem dp_bools {K : PySem.W.Frag} {H : Hp} : ∀ l : List Bool, DpAll K H (l.map V.bl) (l.map PyData.bool)
  | [] => .nil
  | c :: l => .cons (.bl c) (dp_bools l)
theorem ne_bools {K : PySem.W.Frag} {H : Hp} {p q : Addr} {l m : List Bool} {R : VK} (hp : H p = some (.lst (l.map V.bl))) (hq : H q = some (.lst (m.map V.bl))) (e : l = m) (r : R (.bl false) H) : rNeD K (.ref p) (.ref q) H R := by
  subst e
  refine ⟨.list (l.map PyData.bool), .list (l.map PyData.bool), .lst (sq_of hp) (dp_bools l), .lst (sq_of hq) (dp_bools l), shaped_bools l, shaped_bools l, ?_⟩
  rw [eqv_bools]
  exact r
theorem eqJ (j k : Nat) : decide (V.int (j : Int) = V.int (k : Int)) = decide (k = j) := by
  rw [eqI]
  exact decide_eq_decide.mpr eq_comm
theorem due_rep {H : Hp} {a b : V} (k : Nat) (ta : Th H a) (tb : Th H b) : ∃ ds, Reps H (dueF k a b) ds ∧ (PyData.tuple ds).depth < 6 ∧ wid (.tuple ds) ≤ 90000 := by
  obtain ⟨da, ra, za, wa⟩ := ta
  obtain ⟨db, rb, zb, wb⟩ := tb
  unfold dueF
  split
  · exact ⟨[], .nil, by decide, by decide⟩
  split
  · refine ⟨[da, db], .cons ra (.cons rb .nil), ?_, ?_⟩
    · simp only [PyData.depth, PyData.depthAll]
      omega
    · simp only [wid, widAll, List.length_cons, List.length_nil]
      omega
  · refine ⟨[da], .cons ra .nil, ?_, ?_⟩
    · simp only [PyData.depth, PyData.depthAll]
      omega
    · simp only [wid, widAll, List.length_cons, List.length_nil]
      omega
theorem errs_at {AA : Adr} {a b : V} {C : Addr} {fs : List (Str × V)} {k : Nat} (h : (rowsE AA a b)[k]? = some (C, fs)) : (errsA AA)[k]? = some C := by
  have e : errsA AA = (rowsE AA a b).map (·.1) := rfl
  rw [e, List.getElem?_map, h]
  rfl
def spMadeSo (AA : Adr) : Sp := fun vs H Q _ => ∃ (L : Addr) (us : List V) (a b : V), vs = [.ref L, a, b] ∧ H L = some (.lst us) ∧ ErrsAt H us (rowsE AA a b) ∧ Th H a ∧ Th H b ∧ ∀ H2, Ex H H2 → Q (.bl true) H2
section
variable {P : Program} {w : World} {K : PySem.W.Frag} {mg : Str → Option Value} {base : Heap} {AA : Adr}
theorem ok_law_made_so (T : Txt K mg AA) : Pr P w K mg base "_law_made_so" s_law_made_so p_law_made_so 10 (spMadeSo AA) := by
  refine pr_mk T.f_law_made_so sc_law_made_so (fun vs H Q E h => ?_) (fun f cdv A outer s H vs Q E hr h => ?_)
  · obtain ⟨L, us, a, b, rfl, _⟩ := h
    rfl
  · obtain ⟨L, us, a, b, rfl, hL, hu, ta, tb, q⟩ := h
    refine ⟨_, (pss_cons (ps_if (pt_cmpR op_ne (pe_callB (call_len_seqK (K := K) rfl) (by rfl) T.n_len PySem.boot_len (pa_cons (pv 0) pa_nil)) pe_int (nomark _))
      (pss_one (ps_ret pe_bl))
      pss_nil)
      (pss_cons (ps_for PassesOwn.never rfl (pi_range1 (by rfl) T.n_range (pa_cons pe_int pa_nil)) (pg_name (i := 3) sc_law_made_so.nd rfl (.inr rfl))
      (pss_cons (ps_set (i := 4) sc_law_made_so.nd rfl (.inl rfl) (pe_ix (ix_listK (K := K) rfl) (pv 0) (pv 3) (fun _ _ => rfl)))
      (pss_cons (ps_if (pt_not (pt_val (pcall (ok_law_same T 9) hr (pa_cons (pcall (ok_law_fields T) hr (pa_cons (pv 3) (pa_cons (pv 4) pa_nil))) (pa_cons (pcall (ok_law_fields_due T) hr (pa_cons (pv 3) (pa_cons (pv 1) (pa_cons (pv 2) pa_nil)))) pa_nil)))))
      (pss_one (ps_ret pe_bl))
      pss_nil)
      (pss_cons (ps_if (pt_cmpR (op_neD hr.units) (pe_op op_cat (pcall (ok_law_first_kinds T) hr (pa_cons (pv 4) pa_nil)) (pcall (ok_law_last_kinds T) hr (pa_cons (pv 4) pa_nil))) (pe_lc (own := [("_law_j", 8)]) (g := gName 8) (tt := tYes) rfl sc_law_made_so.nd (pi_range1 (by rfl) T.n_range (pa_cons pe_int pa_nil)) (blkOk_by (own := [("_law_j", 8)]) (N := n_law_made_so) (sc := defScope s_law_made_so) (by decide +kernel)) (fun _ _ _ _ _ => (pg_name (i := 8) sc_law_made_so.nd rfl (.inl rfl))) (fun _ _ _ _ _ => pts_nil) (fun _ _ _ _ _ => (pe_cmpR op_eq (pv 8) (pv 3) (nomark _)))) (nomark _))
      (pss_one (ps_ret pe_bl))
      pss_nil)
      (pss_cons (ps_set (i := 5) sc_law_made_so.nd rfl (.inl rfl) (pe_lst (pa_cons (pe_callB (call_isV (K := K) rfl) (by rfl) T.n_isinstance PyProof.Rows.boot_isinstance (pa_cons (pv 4) (pa_cons (pe_glob (v := .ref AA.PooledError) (by rfl) T.m_PooledError rfl) pa_nil))) (pa_cons (pe_callB (call_isV (K := K) rfl) (by rfl) T.n_isinstance PyProof.Rows.boot_isinstance (pa_cons (pv 4) (pa_cons (pe_bltn (v := .ty "ValueError") (by rfl) T.n_ValueError (by decide +kernel) rfl) pa_nil))) (pa_cons (pe_callB (call_isV (K := K) rfl) (by rfl) T.n_isinstance PyProof.Rows.boot_isinstance (pa_cons (pv 4) (pa_cons (pe_glob (v := .ref AA.Missing) (by rfl) T.m_Missing rfl) pa_nil))) (pa_cons (pe_callB (call_isV (K := K) rfl) (by rfl) T.n_isinstance PyProof.Rows.boot_isinstance (pa_cons (pv 4) (pa_cons (pe_bltn (v := .ty "LookupError") (by rfl) T.n_LookupError (by decide +kernel) rfl) pa_nil))) pa_nil))))))
      (pss_cons (ps_set (i := 5) sc_law_made_so.nd rfl (.inl rfl) (pe_op op_cat (pv 5) (pe_lst (pa_cons (pe_callB (call_isV (K := K) rfl) (by rfl) T.n_isinstance PyProof.Rows.boot_isinstance (pa_cons (pv 4) (pa_cons (pe_bltn (v := .ty "IndexError") (by rfl) T.n_IndexError (by decide +kernel) rfl) pa_nil))) (pa_cons (pe_callB (call_isV (K := K) rfl) (by rfl) T.n_isinstance PyProof.Rows.boot_isinstance (pa_cons (pv 4) (pa_cons (pe_bltn (v := .ty "KeyError") (by rfl) T.n_KeyError (by decide +kernel) rfl) pa_nil))) (pa_cons (pe_callB (call_isV (K := K) rfl) (by rfl) T.n_isinstance PyProof.Rows.boot_isinstance (pa_cons (pv 4) (pa_cons (pe_bltn (v := .ty "Exception") (by rfl) T.n_Exception (by decide +kernel) rfl) pa_nil))) pa_nil))))))
      (pss_cons (ps_par (i := 6) (j := 7) rfl sc_law_made_so.nd rfl rfl (by decide) rfl rfl (pa_cons (pe_cmpR op_lt (pv 3) pe_int (nomark _)) (pa_cons (pe_cmpR op_eq (pv 3) pe_int (nomark _)) pa_nil)) rfl)
      (pss_one (ps_if (pt_cmpR (op_neD hr.units) (pv 5) (pe_lst (pa_cons (pv 6) (pa_cons (pv 6) (pa_cons (pe_and (pe_not (pv 6)) (pe_one (pe_not (pv 7)))) (pa_cons (pe_not (pv 6)) (pa_cons (pv 7) (pa_cons pe_bl (pa_cons pe_bl pa_nil)))))))) (nomark _))
      (pss_one (ps_ret pe_bl))
      pss_nil)))))))))
      (pss_one (ps_ret pe_bl)))), ?_⟩
    have hl : us.length = 32 := hu.len
    refine ⟨_, rfl, L, us, rfl, .inl (sq_of hL), rfl, _, rfl, ite_n (by rw [hl]; rfl) ?_⟩
    refine ⟨32, rfl, by decide, by decide, for_it walk_range (fun i σ H' => ∃ y3 y4 y5 y6 y7 y8 : Option V, σ = [some (.ref L), some a, some b, y3, y4, y5, y6, y7, y8] ∧ Ex H H') ⟨none, none, none, none, none, none, rfl, fun _ _ z => z⟩ (fun _ _ _ _ _ => True.intro) (fun i z σ H0 H1 hi hp hy => ?_) (fun σ H1 hp => ?_)⟩
    · obtain ⟨rfl, rfl⟩ := hy
      obtain ⟨w3, w4, w5, w6, w7, w8, rfl, e1⟩ := hp
      have hc : (0 : Int) + (i : Nat) = (i : Int) := Int.zero_add _
      dsimp only
      rw [hc]
      have hi32 : i < (rowsE AA a b).length := hi
      obtain ⟨C, fs, hrow⟩ : ∃ C fs, (rowsE AA a b)[i]? = some (C, fs) := ⟨_, _, List.getElem?_eq_getElem hi32⟩
      have hk := errs_at hrow
      have hec := ec_of T i hk
      obtain ⟨u, hu1, hE⟩ := hu.get hrow
      have hE : ErrV _ u C fs := hE.mono e1
      obtain ⟨a0, d0, rfl, hx, hdd⟩ := isV_at hE
      refine ⟨_, rfl, _, rfl, L, us, i, .ref a0, rfl, rfl, sq_of (e1 _ _ hL), atI_nat hu1, ?_⟩
      refine ⟨_, rfl, _, rfl, .ref a0, C, fs, i, a, b, rfl, hE.held, hrow, fun F G1 x1 hF => ?_⟩
      refine ⟨_, rfl, _, rfl, _, rfl, i, a, b, rfl, fun F2 G2 x2 hF2 => ?_⟩
      obtain ⟨ds, hr1, hr2, hr3⟩ := due_rep i (ta.mono (e1.trans (x1.trans x2))) (tb.mono (e1.trans (x1.trans x2)))
      refine ⟨.ref F, .ref F2, .tuple ds, rfl, .tup (x2 _ _ hF) hr1, .tup hF2 hr1, Nat.lt_of_lt_of_le hr2 (by decide), hr3, fun G3 x3 => ⟨true, rfl, ite_n rfl ?_⟩⟩
      have y3 := x1.trans (x2.trans x3)
      clear hr1 hF hF2
      refine ⟨_, rfl, .ref a0, C, fs, i, rfl, hE.mono y3, hk, fun K1 G4 x4 hK1 => ?_⟩
      refine ⟨_, rfl, .ref a0, C, fs, i, rfl, hE.mono (y3.trans x4), hk, fun K2 G5 x5 hK2 => ?_⟩
      refine ⟨K1, K2, _, _, rfl, rfl, x5 _ _ hK1, hK2, by show 16 + 16 ≤ sizeLine; decide, fun S hS => ?_⟩
      have x6 := Ex.new (o := .lst ((List.range 16).map (fun j => .bl (decide (i = j))) ++ (List.range' 16 16).map fun j => .bl (decide (i = j)))) hS
      have g6 := upd_same (H := G5) (a := S) (o := HO.lst ((List.range 16).map (fun j => .bl (decide (i = j))) ++ (List.range' 16 16).map fun j => .bl (decide (i = j))))
      generalize upd G5 S _ = G6 at x6 g6 ⊢
      have y6 := y3.trans (x4.trans (x5.trans x6))
      clear hK1 hK2
      refine ⟨32, rfl, by decide, by decide, fun D hD => lc_it walk_range (fun m H' => Ex G6 H' ∧ H' D = some (.lst ((List.range m).map fun j => .bl (decide (i = j))))) ⟨Ex.new hD, upd_same⟩ (fun _ _ _ _ => True.intro) (fun m z H3 H4 hm hp hy => ?_) (fun G7 hp => ?_)⟩
      · obtain ⟨rfl, rfl⟩ := hy
        obtain ⟨e3, h3⟩ := hp
        have hc : (0 : Int) + (m : Nat) = (m : Int) := Int.zero_add _
        dsimp only
        rw [hc]
        refine ⟨rfl, _, rfl, _, rfl, rfl, _, h3, ?_, e3.mut hD, ?_⟩
        · rw [List.length_map, List.length_range]
          exact Nat.lt_of_lt_of_le hm (by decide)
        · rw [upd_same, List.range_succ, List.map_append, eqJ]
          rfl
      obtain ⟨x7, hD7⟩ := hp
      refine ne_bools (l := (List.range 32).map fun j => decide (i = j)) (m := (List.range 32).map fun j => decide (i = j)) ((x7 _ _ g6).trans (by rfl)) (hD7.trans (by rfl)) rfl ⟨false, rfl, ite_n rfl ?_⟩
      have y7 := y6.trans x7
      clear g6 hD7
      refine ⟨_, rfl, a0, C, d0, .ref AA.PooledError, .ref AA.PooledError, _, rfl, (hx.mono y7), (heldD hdd y7), hec, fun _ z => z, kb_of T hk (j := 0) rfl, _, rfl, a0, C, d0, .ty "ValueError", .type "ValueError", _, rfl, (hx.mono y7), (heldD hdd y7), hec, fun _ z => z, kb_of T hk (j := 1) rfl, _, rfl, a0, C, d0, .ref AA.Missing, .ref AA.Missing, _, rfl, (hx.mono y7), (heldD hdd y7), hec, fun _ z => z, kb_of T hk (j := 2) rfl, _, rfl, a0, C, d0, .ty "LookupError", .type "LookupError", _, rfl, (hx.mono y7), (heldD hdd y7), hec, fun _ z => z, kb_of T hk (j := 3) rfl, by show 4 ≤ sizeLine; decide, fun B1 hB1 => ?_⟩
      have x8 := Ex.new (o := .lst [.bl (dueB i 0), .bl (dueB i 1), .bl (dueB i 2), .bl (dueB i 3)]) hB1
      have g8 := upd_same (H := G7) (a := B1) (o := HO.lst [.bl (dueB i 0), .bl (dueB i 1), .bl (dueB i 2), .bl (dueB i 3)])
      generalize upd G7 B1 _ = G8 at x8 g8 ⊢
      have y8 := y7.trans x8
      refine ⟨_, rfl, _, rfl, a0, C, d0, .ty "IndexError", .type "IndexError", _, rfl, (hx.mono y8), (heldD hdd y8), hec, fun _ z => z, kb_of T hk (j := 4) rfl, _, rfl, a0, C, d0, .ty "KeyError", .type "KeyError", _, rfl, (hx.mono y8), (heldD hdd y8), hec, fun _ z => z, kb_of T hk (j := 5) rfl, _, rfl, a0, C, d0, .ty "Exception", .type "Exception", _, rfl, (hx.mono y8), (heldD hdd y8), hec, fun _ z => z, kb_of T hk (j := 6) rfl, by show 3 ≤ sizeLine; decide, fun B2 hB2 => ?_⟩
      have x9 := Ex.new (o := .lst [.bl (dueB i 4), .bl (dueB i 5), .bl (dueB i 6)]) hB2
      have g9 := upd_same (H := G8) (a := B2) (o := HO.lst [.bl (dueB i 4), .bl (dueB i 5), .bl (dueB i 6)])
      generalize upd G8 B2 _ = G9 at x9 g9 ⊢
      refine ⟨B1, B2, _, _, rfl, rfl, x9 _ _ g8, g9, by show 4 + 3 ≤ sizeLine; decide, fun B3 hB3 => ?_⟩
      have x10 := Ex.new (o := .lst ([.bl (dueB i 0), .bl (dueB i 1), .bl (dueB i 2), .bl (dueB i 3)] ++ [.bl (dueB i 4), .bl (dueB i 5), .bl (dueB i 6)])) hB3
      have g10 := upd_same (H := G9) (a := B3) (o := HO.lst ([.bl (dueB i 0), .bl (dueB i 1), .bl (dueB i 2), .bl (dueB i 3)] ++ [.bl (dueB i 4), .bl (dueB i 5), .bl (dueB i 6)]))
      generalize upd G9 B3 _ = G10 at x10 g10 ⊢
      have y10 := y8.trans (x9.trans x10)
      refine ⟨_, rfl, i, 25, rfl, rfl, _, rfl, rfl, _, _, rfl, ?_⟩
      dsimp only
      rw [show decide (V.int (i : Int) = V.int 31) = decide (i = 31) from eqI i 31, show decide ((i : Int) < 25) = decide (i < 25) from decide_eq_decide.mpr (by omega)]
      have last : ∀ {bs : List Bool} {B4 : Addr} {G : Hp} {R : VK}, Ex G10 G → G B4 = some (.lst (bs.map V.bl)) → [dueB i 0, dueB i 1, dueB i 2, dueB i 3, dueB i 4, dueB i 5, dueB i 6] = bs → R (.bl false) G → rNeD K (.ref B3) (.ref B4) G R := fun x h e r => ne_bools (l := [dueB i 0, dueB i 1, dueB i 2, dueB i 3, dueB i 4, dueB i 5, dueB i 6]) (x _ _ g10) h e r
      rcases Decidable.em (i < 25) with c | c
      · rw [decide_eq_true c, decide_eq_false (show ¬ i = 31 by omega)]
        refine ⟨_, rfl, _, rfl, _, rfl, _, rfl, _, rfl, _, rfl, ite_n rfl ⟨_, rfl, _, rfl, _, rfl, by show 7 ≤ sizeLine; decide, fun B4 hB4 => ?_⟩⟩
        refine last (bs := [true, true, false, false, false, false, true]) (Ex.new hB4) upd_same ?_ ⟨false, rfl, ite_n rfl ⟨_, _, _, _, _, _, rfl, e1.trans (y10.trans (Ex.new hB4))⟩⟩
        simp only [dueB]
        simp
        omega
      rcases Decidable.em (i = 31) with c2 | c2
      · rw [decide_eq_false c, decide_eq_true c2]
        refine ⟨_, rfl, _, rfl, _, rfl, _, rfl, _, rfl, _, rfl, ite_y rfl ⟨_, rfl, _, rfl, _, rfl, _, rfl, _, rfl, by show 7 ≤ sizeLine; decide, fun B4 hB4 => ?_⟩⟩
        refine last (bs := [false, false, false, true, true, false, true]) (Ex.new hB4) upd_same ?_ ⟨false, rfl, ite_n rfl ⟨_, _, _, _, _, _, rfl, e1.trans (y10.trans (Ex.new hB4))⟩⟩
        simp only [dueB]
        simp
        omega
      · rw [decide_eq_false c, decide_eq_false c2]
        have hi3 : i < 32 := hi
        refine ⟨_, rfl, _, rfl, _, rfl, _, rfl, _, rfl, _, rfl, ite_y rfl ⟨_, rfl, _, rfl, _, rfl, _, rfl, _, rfl, by show 7 ≤ sizeLine; decide, fun B4 hB4 => ?_⟩⟩
        refine last (bs := [false, false, true, true, false, false, true]) (Ex.new hB4) upd_same ?_ ⟨false, rfl, ite_n rfl ⟨_, _, _, _, _, _, rfl, e1.trans (y10.trans (Ex.new hB4))⟩⟩
        simp only [dueB]
        simp
        omega
    · obtain ⟨_, _, _, _, _, _, rfl, e⟩ := hp
      exact q _ e
end
end Eyes

set_option Elab.async false
set_option linter.all false
set_option maxRecDepth 100000
set_option maxHeartbeats 16000000
/-! The law. -/
namespace Eyes
open PySem PySem.Spec PyProof.Rows L2 Evl TL
theorem at9i (I : Addr) : ∀ k : Nat, k < 9 → ([.int 0, .int 0, .int 0, .int 3, .int 3, .ref I, .int 6, .int 6, .int 8] : List V)[k]? = some (if k = 5 then .ref I else .int (if k < 3 then 0 else if k < 5 then 3 else if k < 8 then 6 else 8))
  | 0, _ => rfl
  | 1, _ => rfl
  | 2, _ => rfl
  | 3, _ => rfl
  | 4, _ => rfl
  | 5, _ => rfl
  | 6, _ => rfl
  | 7, _ => rfl
  | 8, _ => rfl
  | k + 9, h => absurd h (by omega)
theorem ItsV.mono {k : Nat} {a v : V} {H G : Hp} (h : ItsV k a H v) (e : Ex H G) : ItsV k a G v := by
  unfold ItsV at h ⊢
  split at h
  · rename_i c
    rw [if_pos c]
    obtain ⟨L, h1, h2⟩ := h
    exact ⟨L, h1, e _ _ h2⟩
  · rename_i c
    rw [if_neg c]
    exact h
theorem deep3 {ds : List PyData} {z : Str} {n : Int} (h : (PyData.tuple ds).depth < 6) : (PyData.tuple [.str z, .int n, .tuple ds]).depth < 9 := by
  simp only [PyData.depth, PyData.depthAll] at h ⊢
  omega
theorem wide3 {ds : List PyData} {z : Str} {n : Int} (h : wid (.tuple ds) ≤ 90000) : wid (.tuple [.str z, .int n, .tuple ds]) ≤ 90000 := by
  simp only [wid, widAll, List.length_cons, List.length_nil] at h ⊢
  omega
theorem its_rep {k : Nat} {a v : V} {H : Hp} {I : Addr} (h : ItsV k a H v) (hI : H I = some (.lst [.int 5, a])) (t : Th H a) : ∃ d, Rep H v d ∧ Rep H (if k = 5 then .ref I else .int (if k < 3 then 0 else if k < 5 then 3 else if k < 8 then 6 else 8)) d ∧ d.depth < 9 ∧ wid d ≤ 90000 := by
  obtain ⟨d, hd1, hd2, hd3⟩ := t
  unfold ItsV at h
  split at h
  · rename_i c
    obtain ⟨L, rfl, hL⟩ := h
    rw [if_pos c]
    refine ⟨.list [.int 5, d], .lst hL (.cons (.int _) (.cons hd1 .nil)), .lst hI (.cons (.int _) (.cons hd1 .nil)), ?_, ?_⟩
    · simp only [PyData.depth, PyData.depthAll]
      omega
    · simp only [wid, widAll, List.length_cons, List.length_nil]
      omega
  · rename_i c
    subst h
    rw [if_neg c]
    exact ⟨.int _, .int _, .int _, by simp [PyData.depth], by simp [wid]⟩
def spLaw (K : PySem.W.Frag) : Sp := fun vs H Q _ => ∃ (a : Addr) (ns : List Int), vs = [.ref a] ∧ SqL K H a (ns.map V.int) ∧ ns.length ≤ 63 ∧ ∀ H', Q (.bl true) H'
section
variable {P : Program} {w : World} {K : PySem.W.Frag} {mg : Str → Option Value} {base : Heap} {AA : Adr}
theorem ok_law (T : Txt K mg AA) : Pr P w K mg base "law" s_law p_law 60 (spLaw K) := by
  refine pr_mk T.f_law sc_law (fun vs H Q E h => ?_) (fun f cdv A outer s H vs Q E hr h => ?_)
  · obtain ⟨a, ns, rfl, _⟩ := h
    rfl
  · obtain ⟨a, ns, rfl, hS, hlen, q⟩ := h
    refine ⟨_, (pss_cons (ps_set (i := 1) sc_law.nd rfl (.inl rfl) (pcall (ok_law_bag T) hr (pa_cons (pv 0) pa_nil)))
      (pss_cons (ps_asg (pe_tup (pa_cons (pcall (ok_law_thing T) hr (pa_cons (pv 1) pa_nil)) (pa_cons (pcall (ok_law_thing T) hr (pa_cons (pv 1) pa_nil)) (pa_cons (pcall (ok_law_thing T) hr (pa_cons (pv 1) pa_nil)) (pa_cons (pcall (ok_law_thing T) hr (pa_cons (pv 1) pa_nil)) pa_nil))))) (pg_tup (by rfl) (pgs_cons (pg_name (i := 2) sc_law.nd rfl (.inl rfl)) (pgs_cons (pg_name (i := 3) sc_law.nd rfl (.inl rfl)) (pgs_cons (pg_name (i := 4) sc_law.nd rfl (.inl rfl)) (pgs_cons (pg_name (i := 5) sc_law.nd rfl (.inl rfl)) pgs_nil))))))
      (pss_cons (ps_set (i := 6) sc_law.nd rfl (.inl rfl) (pcall (ok_law_by_place T) hr (pa_cons (pv 2) (pa_cons (pv 3) pa_nil))))
      (pss_cons (ps_set (i := 7) sc_law.nd rfl (.inl rfl) (pcall (ok_law_by_name T) hr (pa_cons (pv 4) (pa_cons (pv 5) pa_nil))))
      (pss_cons (ps_if (PW.pt (pw_or (pt_not (pt_val (pcall (ok_law_made_so T) hr (pa_cons (pv 6) (pa_cons (pv 2) (pa_cons (pv 3) pa_nil)))))) (pw_or (pt_not (pt_val (pcall (ok_law_made_so T) hr (pa_cons (pv 7) (pa_cons (pv 4) (pa_cons (pv 5) pa_nil)))))) (pw_or1 (pt_not (pt_val (pcall (ok_law_made_so T) hr (pa_cons (pv 6) (pa_cons (pv 2) (pa_cons (pv 3) pa_nil))))))))))
      (pss_one (ps_ret pe_bl))
      pss_nil)
      (pss_cons (ps_for PassesOwn.never rfl (pi_range1 (by rfl) T.n_range (pa_cons pe_int pa_nil)) (pg_name (i := 8) sc_law.nd rfl (.inl rfl))
      (pss_cons (ps_par3 (i := 9) (j := 2) (l := 3) rfl sc_law.nd rfl rfl rfl (by decide) (by decide) (by decide) rfl rfl rfl (pa_cons (pcall (ok_law_draw T) hr (pa_cons (pv 1) (pa_cons pe_int pa_nil))) (pa_cons (pcall (ok_law_thing T) hr (pa_cons (pv 1) pa_nil)) (pa_cons (pcall (ok_law_thing T) hr (pa_cons (pv 1) pa_nil)) pa_nil))) rfl)
      (pss_cons (ps_set (i := 10) sc_law.nd rfl (.inl rfl) (pe_ix (ix_listK (K := K) rfl) (pe_lst (pa_cons pe_int (pa_cons pe_int (pa_cons pe_int (pa_cons pe_int (pa_cons pe_int (pa_cons pe_int (pa_cons pe_int (pa_cons pe_int (pa_cons pe_int pa_nil)))))))))) (pv 9) (fun _ _ => rfl)))
      (pss_cons (ps_set (i := 11) sc_law.nd rfl (.inl rfl) (pe_ifExp (pt_cmpR op_lt (pv 9) pe_int (nomark _)) pe_str (pe_ifExp (pt_cmpR op_eq (pv 9) pe_int (nomark _)) pe_str pe_str)))
      (pss_cons (ps_if (pt_not (pt_val (pcall (ok_law_same T 9) hr (pa_cons (pcall (ok_law_caught T) hr (pa_cons (pv 9) (pa_cons (pv 2) (pa_cons (pv 3) pa_nil)))) (pa_cons (pe_tup (pa_cons (pv 11) (pa_cons (pv 10) (pa_cons (pcall (ok_law_fields_due T) hr (pa_cons (pv 10) (pa_cons (pv 2) (pa_cons (pv 3) pa_nil)))) pa_nil)))) pa_nil)))))
      (pss_one (ps_ret pe_bl))
      pss_nil)
      (pss_one (ps_if (pt_not (pt_val (pcall (ok_law_same T 9) hr (pa_cons (pcall (ok_law_caught_itself T) hr (pa_cons (pv 9) (pa_cons (pv 2) (pa_cons (pv 3) pa_nil)))) (pa_cons (pe_ix (ix_listK (K := K) rfl) (pe_lst (pa_cons pe_int (pa_cons pe_int (pa_cons pe_int (pa_cons pe_int (pa_cons pe_int (pa_cons (pe_lst (pa_cons pe_int (pa_cons (pv 2) pa_nil))) (pa_cons pe_int (pa_cons pe_int (pa_cons pe_int pa_nil)))))))))) (pv 9) (fun _ _ => rfl)) pa_nil)))))
      (pss_one (ps_ret pe_bl))
      pss_nil)))))))
      (pss_one (ps_ret pe_bl)))))))), ?_⟩
    refine ⟨_, rfl, a, ns, rfl, hS, fun b H1 hb hA1 => ?_⟩
    refine ⟨_, rfl, b, H, rfl, hA1, fun v1 G2 H2 g2 hA2 t1 => ?_⟩
    refine ⟨_, rfl, b, G2, rfl, hA2, fun v2 G3 H3 g3 hA3 t2 => ?_⟩
    refine ⟨_, rfl, b, G3, rfl, hA3, fun v3 G4 H4 g4 hA4 t3 => ?_⟩
    refine ⟨_, rfl, b, G4, rfl, hA4, fun v4 G5 H5 g5 hA5 t4 => ?_⟩
    refine ⟨by show 4 ≤ sizeLine; decide, fun T0 hT0 => ⟨T0, _, rfl, st_of upd_same, rfl, _, _, rfl, _, _, rfl, _, _, rfl, _, _, rfl, rfl, ?_⟩⟩
    have hA6 : At b G5 (upd H5 T0 (.tup [v1, v2, v3, v4])) := hA5.mono (Ex.new hT0)
    generalize upd H5 T0 _ = H6 at hA6 ⊢
    have t1 := t1.mono (g3.trans (g4.trans (g5.trans hA6.ex)))
    have t2 := t2.mono (g4.trans (g5.trans hA6.ex))
    have t3 := t3.mono (g5.trans hA6.ex)
    have t4 := t4.mono hA6.ex
    refine ⟨_, rfl, _, rfl, v1, v2, rfl, fun L us H7 x7 hL hu => ?_⟩
    refine ⟨_, rfl, _, rfl, v3, v4, rfl, fun M ws H8 x8 hM hw => ?_⟩
    have x78 := x7.trans x8
    refine ⟨_, rfl, _, rfl, _, rfl, L, us, v1, v2, rfl, x8 _ _ hL, hu.mono x8, t1.mono x78, t2.mono x78, fun H9 x9 => ⟨true, rfl, ite_n rfl ?_⟩⟩
    have x79 := x78.trans x9
    refine ⟨_, rfl, _, rfl, _, rfl, M, ws, v3, v4, rfl, x9 _ _ hM, hw.mono x9, t3.mono x79, t4.mono x79, fun H10 x10 => ⟨true, rfl, ite_n rfl ?_⟩⟩
    have x70 := x79.trans x10
    refine ⟨_, rfl, _, rfl, _, rfl, L, us, v1, v2, rfl, x10 _ _ (x9 _ _ (x8 _ _ hL)), hu.mono (x8.trans (x9.trans x10)), t1.mono x70, t2.mono x70, fun H11 x11 => ⟨true, rfl, ite_n rfl ?_⟩⟩
    have hA11 := hA6.mono (x70.trans x11)
    refine ⟨3, rfl, by decide, by decide, for_it walk_range (fun i σ H' => ∃ (w2 w3 w4 w5 w6 w7 w8 w9 w10 w11 : Option V) (G : Hp), σ = [some (.ref a), some (.ref b), w2, w3, w4, w5, w6, w7, w8, w9, w10, w11] ∧ At b G H') ⟨_, _, _, _, _, _, _, _, _, _, G5, rfl, hA11⟩ (fun _ _ _ _ _ => True.intro) (fun i z σ H0 H1 hi hp hy => ?_) (fun σ H1 hp => ?_)⟩
    · clear t1 t2 t3 t4 hL hu hM hw x7 x8 x9 x10 x11 x78 x79 x70 hA1 hA2 hA3 hA4 hA5 hA6 hA11 g2 g3 g4 g5 hT0 hb
      obtain ⟨rfl, rfl⟩ := hy
      obtain ⟨w2, w3, w4, w5, w6, w7, w8, w9, w10, w11, G, rfl, hA⟩ := hp
      refine ⟨_, rfl, b, 9, G, rfl, hA, by decide, by decide, fun r J2 r0 r1 hA2 => ?_⟩
      obtain ⟨k, rfl⟩ := Int.eq_ofNat_of_zero_le r0
      have hk : k < 9 := by omega
      refine ⟨_, rfl, b, G, rfl, hA2, fun c1 K3 J3 g3 hA3 s1 => ?_⟩
      refine ⟨_, rfl, b, K3, rfl, hA3, fun c2 K4 J4 g4 hA4 s2 => ?_⟩
      refine ⟨_, _, _, rfl, ?_⟩
      refine ⟨by show 9 ≤ sizeLine; decide, fun L0 hL0 => ⟨_, rfl, L0, _, _, .int (ixE k : Nat), rfl, rfl, sq_of upd_same, atI_nat (at9 k hk), ?_⟩⟩
      have hA5 : At b K4 (upd J4 L0 (.lst [.int 0, .int 16, .int 13, .int 17, .int 24, .int 26, .int 30, .int 25, .int 31])) := hA4.mono (Ex.new hL0)
      generalize upd J4 L0 _ = J5 at hA5 ⊢
      have s1 := s1.mono (g4.trans hA5.ex)
      have s2 := s2.mono hA5.ex
      clear hA2 hA3 hA4 hL0
      refine ⟨_, rfl, k, 5, rfl, rfl, _, rfl, ?_⟩
      rcases Decidable.em (k < 5) with c | c
      · refine ite_y (decide_eq_true (by omega)) ?_
        rw [show Str.ofString "pooled" = baseE k from (if_pos c).symm]
        refine ⟨_, rfl, _, rfl, _, rfl, k, c1, c2, hk, rfl, fun L M J6 x6 hM hL => ?_⟩
        refine ⟨_, rfl, _, rfl, _, rfl, _, rfl, _, rfl, ixE k, c1, c2, rfl, fun N J7 x7 hN => ?_⟩
        refine ⟨by show 3 ≤ sizeLine; decide, fun R hR => ?_⟩
        have x8 := Ex.new (o := .tup [.str (baseE k), .int (ixE k : Nat), .ref N]) hR
        have g8 := upd_same (H := J7) (a := R) (o := HO.tup [.str (baseE k), .int (ixE k : Nat), .ref N])
        generalize upd J7 R _ = J8 at x8 g8 ⊢
        have x58 := x6.trans (x7.trans x8)
        obtain ⟨ds, hr1, hr2, hr3⟩ := due_rep (ixE k) (s1.mono x58) (s2.mono x58)
        refine ⟨.ref L, .ref R, .tuple [.str (baseE k), .int (ixE k : Nat), .tuple ds], rfl, .tup (x8 _ _ (x7 _ _ hL)) (.cons (.str _) (.cons (.int _) (.cons (.tup (x8 _ _ (x7 _ _ hM)) hr1) .nil))), .tup g8 (.cons (.str _) (.cons (.int _) (.cons (.tup (x8 _ _ hN) hr1) .nil))), deep3 hr2, wide3 hr3, fun J9 x9 => ⟨true, rfl, ite_n rfl ?_⟩⟩
        have x59 := x58.trans x9
        clear hr1 g8 hN hM hL x6 x7 x8 x58
        refine ⟨_, rfl, _, rfl, _, rfl, k, c1, c2, hk, rfl, fun v J10 x10 hv => ?_⟩
        refine ⟨_, rfl, by show 2 ≤ sizeLine; decide, fun I hI => ⟨by show 9 ≤ sizeLine; decide, fun O hO => ⟨_, rfl, O, _, _, _, rfl, rfl, sq_of upd_same, atI_nat (at9i I k hk), ?_⟩⟩⟩
        have xI := Ex.new (o := .lst [.int 5, c1]) hI
        have gI := upd_same (H := J10) (a := I) (o := HO.lst [.int 5, c1])
        generalize upd J10 I _ = J11 at xI gI hO ⊢
        have xO := Ex.new (o := .lst [.int 0, .int 0, .int 0, .int 3, .int 3, .ref I, .int 6, .int 6, .int 8]) hO
        generalize upd J11 O _ = J12 at xO ⊢
        have xF := x59.trans (x10.trans (xI.trans xO))
        obtain ⟨d, e1, e2, e3, e4⟩ := its_rep (hv.mono (xI.trans xO)) (xO _ _ gI) (s1.mono xF)
        exact ⟨v, _, d, rfl, e1, e2, e3, e4, fun J13 x13 => ⟨true, rfl, ite_n rfl ⟨_, _, _, _, _, _, _, _, _, _, K4, rfl, hA5.mono (xF.trans x13)⟩⟩⟩
      · refine ite_n (decide_eq_false (by omega)) ?_
        rcases Decidable.em (k = 8) with c3 | c3
        · refine ⟨_, rfl, rfl, decide (k = 8), congrArg V.bl (eqI k 8), ite_y (decide_eq_true c3) ?_⟩
          rw [show Str.ofString "left" = baseE k from by rw [c3]; rfl]
          refine ⟨_, rfl, _, rfl, _, rfl, k, c1, c2, hk, rfl, fun L M J6 x6 hM hL => ?_⟩
          refine ⟨_, rfl, _, rfl, _, rfl, _, rfl, _, rfl, ixE k, c1, c2, rfl, fun N J7 x7 hN => ?_⟩
          refine ⟨by show 3 ≤ sizeLine; decide, fun R hR => ?_⟩
          have x8 := Ex.new (o := .tup [.str (baseE k), .int (ixE k : Nat), .ref N]) hR
          have g8 := upd_same (H := J7) (a := R) (o := HO.tup [.str (baseE k), .int (ixE k : Nat), .ref N])
          generalize upd J7 R _ = J8 at x8 g8 ⊢
          have x58 := x6.trans (x7.trans x8)
          obtain ⟨ds, hr1, hr2, hr3⟩ := due_rep (ixE k) (s1.mono x58) (s2.mono x58)
          refine ⟨.ref L, .ref R, .tuple [.str (baseE k), .int (ixE k : Nat), .tuple ds], rfl, .tup (x8 _ _ (x7 _ _ hL)) (.cons (.str _) (.cons (.int _) (.cons (.tup (x8 _ _ (x7 _ _ hM)) hr1) .nil))), .tup g8 (.cons (.str _) (.cons (.int _) (.cons (.tup (x8 _ _ hN) hr1) .nil))), deep3 hr2, wide3 hr3, fun J9 x9 => ⟨true, rfl, ite_n rfl ?_⟩⟩
          have x59 := x58.trans x9
          clear hr1 g8 hN hM hL x6 x7 x8 x58
          refine ⟨_, rfl, _, rfl, _, rfl, k, c1, c2, hk, rfl, fun v J10 x10 hv => ?_⟩
          refine ⟨_, rfl, by show 2 ≤ sizeLine; decide, fun I hI => ⟨by show 9 ≤ sizeLine; decide, fun O hO => ⟨_, rfl, O, _, _, _, rfl, rfl, sq_of upd_same, atI_nat (at9i I k hk), ?_⟩⟩⟩
          have xI := Ex.new (o := .lst [.int 5, c1]) hI
          have gI := upd_same (H := J10) (a := I) (o := HO.lst [.int 5, c1])
          generalize upd J10 I _ = J11 at xI gI hO ⊢
          have xO := Ex.new (o := .lst [.int 0, .int 0, .int 0, .int 3, .int 3, .ref I, .int 6, .int 6, .int 8]) hO
          generalize upd J11 O _ = J12 at xO ⊢
          have xF := x59.trans (x10.trans (xI.trans xO))
          obtain ⟨d, e1, e2, e3, e4⟩ := its_rep (hv.mono (xI.trans xO)) (xO _ _ gI) (s1.mono xF)
          exact ⟨v, _, d, rfl, e1, e2, e3, e4, fun J13 x13 => ⟨true, rfl, ite_n rfl ⟨_, _, _, _, _, _, _, _, _, _, K4, rfl, hA5.mono (xF.trans x13)⟩⟩⟩
        · refine ⟨_, rfl, rfl, decide (k = 8), congrArg V.bl (eqI k 8), ite_n (decide_eq_false c3) ?_⟩
          rw [show Str.ofString "missing" = baseE k from by unfold baseE; rw [if_neg c, if_neg c3]]
          refine ⟨_, rfl, _, rfl, _, rfl, k, c1, c2, hk, rfl, fun L M J6 x6 hM hL => ?_⟩
          refine ⟨_, rfl, _, rfl, _, rfl, _, rfl, _, rfl, ixE k, c1, c2, rfl, fun N J7 x7 hN => ?_⟩
          refine ⟨by show 3 ≤ sizeLine; decide, fun R hR => ?_⟩
          have x8 := Ex.new (o := .tup [.str (baseE k), .int (ixE k : Nat), .ref N]) hR
          have g8 := upd_same (H := J7) (a := R) (o := HO.tup [.str (baseE k), .int (ixE k : Nat), .ref N])
          generalize upd J7 R _ = J8 at x8 g8 ⊢
          have x58 := x6.trans (x7.trans x8)
          obtain ⟨ds, hr1, hr2, hr3⟩ := due_rep (ixE k) (s1.mono x58) (s2.mono x58)
          refine ⟨.ref L, .ref R, .tuple [.str (baseE k), .int (ixE k : Nat), .tuple ds], rfl, .tup (x8 _ _ (x7 _ _ hL)) (.cons (.str _) (.cons (.int _) (.cons (.tup (x8 _ _ (x7 _ _ hM)) hr1) .nil))), .tup g8 (.cons (.str _) (.cons (.int _) (.cons (.tup (x8 _ _ hN) hr1) .nil))), deep3 hr2, wide3 hr3, fun J9 x9 => ⟨true, rfl, ite_n rfl ?_⟩⟩
          have x59 := x58.trans x9
          clear hr1 g8 hN hM hL x6 x7 x8 x58
          refine ⟨_, rfl, _, rfl, _, rfl, k, c1, c2, hk, rfl, fun v J10 x10 hv => ?_⟩
          refine ⟨_, rfl, by show 2 ≤ sizeLine; decide, fun I hI => ⟨by show 9 ≤ sizeLine; decide, fun O hO => ⟨_, rfl, O, _, _, _, rfl, rfl, sq_of upd_same, atI_nat (at9i I k hk), ?_⟩⟩⟩
          have xI := Ex.new (o := .lst [.int 5, c1]) hI
          have gI := upd_same (H := J10) (a := I) (o := HO.lst [.int 5, c1])
          generalize upd J10 I _ = J11 at xI gI hO ⊢
          have xO := Ex.new (o := .lst [.int 0, .int 0, .int 0, .int 3, .int 3, .ref I, .int 6, .int 6, .int 8]) hO
          generalize upd J11 O _ = J12 at xO ⊢
          have xF := x59.trans (x10.trans (xI.trans xO))
          obtain ⟨d, e1, e2, e3, e4⟩ := its_rep (hv.mono (xI.trans xO)) (xO _ _ gI) (s1.mono xF)
          exact ⟨v, _, d, rfl, e1, e2, e3, e4, fun J13 x13 => ⟨true, rfl, ite_n rfl ⟨_, _, _, _, _, _, _, _, _, _, K4, rfl, hA5.mono (xF.trans x13)⟩⟩⟩
    · obtain ⟨_, _, _, _, _, _, _, _, _, _, _, rfl, _⟩ := hp
      exact q _
end
end Eyes

set_option Elab.async false
set_option linter.all false
set_option maxRecDepth 100000
namespace Eyes
open PySem PySem.Spec PyProof.Rows L2
set_option maxHeartbeats 0 in
theorem txt_mk {K : PySem.W.Frag} {h : Heap} {mg : Str → Option Value} (X : K.In h) (G : h.Ns mainGlobals mg) {z_PooledError : Addr} {z_Missing : Addr} {z_InvalidName : Addr} {z_InvalidNumber : Addr} {z_InvalidText : Addr} {z_InvalidCircle : Addr} {z_InvalidTie : Addr} {z_InvalidParting : Addr} {z_InvalidCase : Addr} {z_InvalidGrant : Addr} {z_InvalidBan : Addr} {z_InvalidShare : Addr} {z_InvalidSaying : Addr} {z_InvalidLog : Addr} {z_InvalidLot : Addr} {z_InvalidEyes : Addr} {z_InvalidDeed : Addr} {z_InvalidQuestion : Addr} {z_TooMany : Addr} {z_NotAlike : Addr} {z_CommonShown : Addr} {z_NotPooled : Addr} {z_UnlikeSketches : Addr} {z_NotSafe : Addr} {z_CannotStand : Addr} {z_NameTaken : Addr} {z_InUse : Addr} {z_UnknownName : Addr} {z_UnknownEye : Addr} {z_UnknownGrant : Addr} {z_UnknownBan : Addr} {z_UnknownShare : Addr} {z_UnknownSaying : Addr} {z_NothingLeft : Addr} {f51 : Addr} {oc51 : Value} {od51 : Option Addr} {an51 : Option Addr} {sl51 : Array (Option Value)} {kV51 : Value} {dc51 : Value} {pm51 : Value} {cd51 : Value} {ct51 : Value} {nm51 : Str} {qn51 : Str} {nn51 : Addr} {bs51 : List Value} {bm51 : List Value} {sb51 : List Value} {sn51 : List Str} {ab51 : Bool} {co51 : Option Bool} {dd51 : Option Addr} {k051 : Option Value} {k151 : Option Value} {k251 : Option Value} {k351 : Option Value} {k551 : Option Value} {f53 : Addr} {oc53 : Value} {od53 : Option Addr} {an53 : Option Addr} {sl53 : Array (Option Value)} {kV53 : Value} {dc53 : Value} {pm53 : Value} {cd53 : Value} {ct53 : Value} {nm53 : Str} {qn53 : Str} {nn53 : Addr} {bs53 : List Value} {bm53 : List Value} {sb53 : List Value} {sn53 : List Str} {ab53 : Bool} {co53 : Option Bool} {dd53 : Option Addr} {k053 : Option Value} {k153 : Option Value} {k253 : Option Value} {k353 : Option Value} {k553 : Option Value} {f55 : Addr} {oc55 : Value} {od55 : Option Addr} {an55 : Option Addr} {sl55 : Array (Option Value)} {kV55 : Value} {dc55 : Value} {pm55 : Value} {cd55 : Value} {ct55 : Value} {nm55 : Str} {qn55 : Str} {nn55 : Addr} {bs55 : List Value} {bm55 : List Value} {sb55 : List Value} {sn55 : List Str} {ab55 : Bool} {co55 : Option Bool} {dd55 : Option Addr} {k055 : Option Value} {k155 : Option Value} {k255 : Option Value} {k355 : Option Value} {k555 : Option Value} {f57 : Addr} {oc57 : Value} {od57 : Option Addr} {an57 : Option Addr} {sl57 : Array (Option Value)} {kV57 : Value} {dc57 : Value} {pm57 : Value} {cd57 : Value} {ct57 : Value} {nm57 : Str} {qn57 : Str} {nn57 : Addr} {bs57 : List Value} {bm57 : List Value} {sb57 : List Value} {sn57 : List Str} {ab57 : Bool} {co57 : Option Bool} {dd57 : Option Addr} {k057 : Option Value} {k157 : Option Value} {k257 : Option Value} {k357 : Option Value} {k557 : Option Value} {f59 : Addr} {oc59 : Value} {od59 : Option Addr} {an59 : Option Addr} {sl59 : Array (Option Value)} {kV59 : Value} {dc59 : Value} {pm59 : Value} {cd59 : Value} {ct59 : Value} {nm59 : Str} {qn59 : Str} {nn59 : Addr} {bs59 : List Value} {bm59 : List Value} {sb59 : List Value} {sn59 : List Str} {ab59 : Bool} {co59 : Option Bool} {dd59 : Option Addr} {k059 : Option Value} {k159 : Option Value} {k259 : Option Value} {k359 : Option Value} {k559 : Option Value} {f61 : Addr} {oc61 : Value} {od61 : Option Addr} {an61 : Option Addr} {sl61 : Array (Option Value)} {kV61 : Value} {dc61 : Value} {pm61 : Value} {cd61 : Value} {ct61 : Value} {nm61 : Str} {qn61 : Str} {nn61 : Addr} {bs61 : List Value} {bm61 : List Value} {sb61 : List Value} {sn61 : List Str} {ab61 : Bool} {co61 : Option Bool} {dd61 : Option Addr} {k061 : Option Value} {k161 : Option Value} {k261 : Option Value} {k361 : Option Value} {k561 : Option Value} {f63 : Addr} {oc63 : Value} {od63 : Option Addr} {an63 : Option Addr} {sl63 : Array (Option Value)} {kV63 : Value} {dc63 : Value} {pm63 : Value} {cd63 : Value} {ct63 : Value} {nm63 : Str} {qn63 : Str} {nn63 : Addr} {bs63 : List Value} {bm63 : List Value} {sb63 : List Value} {sn63 : List Str} {ab63 : Bool} {co63 : Option Bool} {dd63 : Option Addr} {k063 : Option Value} {k163 : Option Value} {k263 : Option Value} {k363 : Option Value} {k563 : Option Value} {f65 : Addr} {oc65 : Value} {od65 : Option Addr} {an65 : Option Addr} {sl65 : Array (Option Value)} {kV65 : Value} {dc65 : Value} {pm65 : Value} {cd65 : Value} {ct65 : Value} {nm65 : Str} {qn65 : Str} {nn65 : Addr} {bs65 : List Value} {bm65 : List Value} {sb65 : List Value} {sn65 : List Str} {ab65 : Bool} {co65 : Option Bool} {dd65 : Option Addr} {k065 : Option Value} {k165 : Option Value} {k265 : Option Value} {k365 : Option Value} {k565 : Option Value} {f67 : Addr} {oc67 : Value} {od67 : Option Addr} {an67 : Option Addr} {sl67 : Array (Option Value)} {kV67 : Value} {dc67 : Value} {pm67 : Value} {cd67 : Value} {ct67 : Value} {nm67 : Str} {qn67 : Str} {nn67 : Addr} {bs67 : List Value} {bm67 : List Value} {sb67 : List Value} {sn67 : List Str} {ab67 : Bool} {co67 : Option Bool} {dd67 : Option Addr} {k067 : Option Value} {k167 : Option Value} {k267 : Option Value} {k367 : Option Value} {k567 : Option Value} {f69 : Addr} {oc69 : Value} {od69 : Option Addr} {an69 : Option Addr} {sl69 : Array (Option Value)} {kV69 : Value} {dc69 : Value} {pm69 : Value} {cd69 : Value} {ct69 : Value} {nm69 : Str} {qn69 : Str} {nn69 : Addr} {bs69 : List Value} {bm69 : List Value} {sb69 : List Value} {sn69 : List Str} {ab69 : Bool} {co69 : Option Bool} {dd69 : Option Addr} {k069 : Option Value} {k169 : Option Value} {k269 : Option Value} {k369 : Option Value} {k569 : Option Value} {f71 : Addr} {oc71 : Value} {od71 : Option Addr} {an71 : Option Addr} {sl71 : Array (Option Value)} {kV71 : Value} {dc71 : Value} {pm71 : Value} {cd71 : Value} {ct71 : Value} {nm71 : Str} {qn71 : Str} {nn71 : Addr} {bs71 : List Value} {bm71 : List Value} {sb71 : List Value} {sn71 : List Str} {ab71 : Bool} {co71 : Option Bool} {dd71 : Option Addr} {k071 : Option Value} {k171 : Option Value} {k271 : Option Value} {k371 : Option Value} {k571 : Option Value} {f73 : Addr} {oc73 : Value} {od73 : Option Addr} {an73 : Option Addr} {sl73 : Array (Option Value)} {kV73 : Value} {dc73 : Value} {pm73 : Value} {cd73 : Value} {ct73 : Value} {nm73 : Str} {qn73 : Str} {nn73 : Addr} {bs73 : List Value} {bm73 : List Value} {sb73 : List Value} {sn73 : List Str} {ab73 : Bool} {co73 : Option Bool} {dd73 : Option Addr} {k073 : Option Value} {k173 : Option Value} {k273 : Option Value} {k373 : Option Value} {k573 : Option Value} {f75 : Addr} {oc75 : Value} {od75 : Option Addr} {an75 : Option Addr} {sl75 : Array (Option Value)} {kV75 : Value} {dc75 : Value} {pm75 : Value} {cd75 : Value} {ct75 : Value} {nm75 : Str} {qn75 : Str} {nn75 : Addr} {bs75 : List Value} {bm75 : List Value} {sb75 : List Value} {sn75 : List Str} {ab75 : Bool} {co75 : Option Bool} {dd75 : Option Addr} {k075 : Option Value} {k175 : Option Value} {k275 : Option Value} {k375 : Option Value} {k575 : Option Value} {f78 : Addr} {oc78 : Value} {od78 : Option Addr} {an78 : Option Addr} {sl78 : Array (Option Value)} {kV78 : Value} {dc78 : Value} {pm78 : Value} {cd78 : Value} {ct78 : Value} {nm78 : Str} {qn78 : Str} {nn78 : Addr} {bs78 : List Value} {bm78 : List Value} {sb78 : List Value} {sn78 : List Str} {ab78 : Bool} {co78 : Option Bool} {dd78 : Option Addr} {k078 : Option Value} {k178 : Option Value} {k278 : Option Value} {k378 : Option Value} {k578 : Option Value} {f81 : Addr} {oc81 : Value} {od81 : Option Addr} {an81 : Option Addr} {sl81 : Array (Option Value)} {kV81 : Value} {dc81 : Value} {pm81 : Value} {cd81 : Value} {ct81 : Value} {nm81 : Str} {qn81 : Str} {nn81 : Addr} {bs81 : List Value} {bm81 : List Value} {sb81 : List Value} {sn81 : List Str} {ab81 : Bool} {co81 : Option Bool} {dd81 : Option Addr} {k081 : Option Value} {k181 : Option Value} {k281 : Option Value} {k381 : Option Value} {k581 : Option Value} {f84 : Addr} {oc84 : Value} {od84 : Option Addr} {an84 : Option Addr} {sl84 : Array (Option Value)} {kV84 : Value} {dc84 : Value} {pm84 : Value} {cd84 : Value} {ct84 : Value} {nm84 : Str} {qn84 : Str} {nn84 : Addr} {bs84 : List Value} {bm84 : List Value} {sb84 : List Value} {sn84 : List Str} {ab84 : Bool} {co84 : Option Bool} {dd84 : Option Addr} {k084 : Option Value} {k184 : Option Value} {k284 : Option Value} {k384 : Option Value} {k584 : Option Value} {f87 : Addr} {oc87 : Value} {od87 : Option Addr} {an87 : Option Addr} {sl87 : Array (Option Value)} {kV87 : Value} {dc87 : Value} {pm87 : Value} {cd87 : Value} {ct87 : Value} {nm87 : Str} {qn87 : Str} {nn87 : Addr} {bs87 : List Value} {bm87 : List Value} {sb87 : List Value} {sn87 : List Str} {ab87 : Bool} {co87 : Option Bool} {dd87 : Option Addr} {k087 : Option Value} {k187 : Option Value} {k287 : Option Value} {k387 : Option Value} {k587 : Option Value} {f91 : Addr} {oc91 : Value} {od91 : Option Addr} {an91 : Option Addr} {sl91 : Array (Option Value)} {kV91 : Value} {dc91 : Value} {pm91 : Value} {cd91 : Value} {ct91 : Value} {nm91 : Str} {qn91 : Str} {nn91 : Addr} {bs91 : List Value} {bm91 : List Value} {sb91 : List Value} {sn91 : List Str} {ab91 : Bool} {co91 : Option Bool} {dd91 : Option Addr} {k091 : Option Value} {k191 : Option Value} {k291 : Option Value} {k391 : Option Value} {k591 : Option Value} {f93 : Addr} {oc93 : Value} {od93 : Option Addr} {an93 : Option Addr} {sl93 : Array (Option Value)} {kV93 : Value} {dc93 : Value} {pm93 : Value} {cd93 : Value} {ct93 : Value} {nm93 : Str} {qn93 : Str} {nn93 : Addr} {bs93 : List Value} {bm93 : List Value} {sb93 : List Value} {sn93 : List Str} {ab93 : Bool} {co93 : Option Bool} {dd93 : Option Addr} {k093 : Option Value} {k193 : Option Value} {k293 : Option Value} {k393 : Option Value} {k593 : Option Value} {f95 : Addr} {oc95 : Value} {od95 : Option Addr} {an95 : Option Addr} {sl95 : Array (Option Value)} {kV95 : Value} {dc95 : Value} {pm95 : Value} {cd95 : Value} {ct95 : Value} {nm95 : Str} {qn95 : Str} {nn95 : Addr} {bs95 : List Value} {bm95 : List Value} {sb95 : List Value} {sn95 : List Str} {ab95 : Bool} {co95 : Option Bool} {dd95 : Option Addr} {k095 : Option Value} {k195 : Option Value} {k295 : Option Value} {k395 : Option Value} {k595 : Option Value} {f97 : Addr} {oc97 : Value} {od97 : Option Addr} {an97 : Option Addr} {sl97 : Array (Option Value)} {kV97 : Value} {dc97 : Value} {pm97 : Value} {cd97 : Value} {ct97 : Value} {nm97 : Str} {qn97 : Str} {nn97 : Addr} {bs97 : List Value} {bm97 : List Value} {sb97 : List Value} {sn97 : List Str} {ab97 : Bool} {co97 : Option Bool} {dd97 : Option Addr} {k097 : Option Value} {k197 : Option Value} {k297 : Option Value} {k397 : Option Value} {k597 : Option Value} {f99 : Addr} {oc99 : Value} {od99 : Option Addr} {an99 : Option Addr} {sl99 : Array (Option Value)} {kV99 : Value} {dc99 : Value} {pm99 : Value} {cd99 : Value} {ct99 : Value} {nm99 : Str} {qn99 : Str} {nn99 : Addr} {bs99 : List Value} {bm99 : List Value} {sb99 : List Value} {sn99 : List Str} {ab99 : Bool} {co99 : Option Bool} {dd99 : Option Addr} {k099 : Option Value} {k199 : Option Value} {k299 : Option Value} {k399 : Option Value} {k599 : Option Value} {f101 : Addr} {oc101 : Value} {od101 : Option Addr} {an101 : Option Addr} {sl101 : Array (Option Value)} {kV101 : Value} {dc101 : Value} {pm101 : Value} {cd101 : Value} {ct101 : Value} {nm101 : Str} {qn101 : Str} {nn101 : Addr} {bs101 : List Value} {bm101 : List Value} {sb101 : List Value} {sn101 : List Str} {ab101 : Bool} {co101 : Option Bool} {dd101 : Option Addr} {k0101 : Option Value} {k1101 : Option Value} {k2101 : Option Value} {k3101 : Option Value} {k5101 : Option Value} {f103 : Addr} {oc103 : Value} {od103 : Option Addr} {an103 : Option Addr} {sl103 : Array (Option Value)} {kV103 : Value} {dc103 : Value} {pm103 : Value} {cd103 : Value} {ct103 : Value} {nm103 : Str} {qn103 : Str} {nn103 : Addr} {bs103 : List Value} {bm103 : List Value} {sb103 : List Value} {sn103 : List Str} {ab103 : Bool} {co103 : Option Bool} {dd103 : Option Addr} {k0103 : Option Value} {k1103 : Option Value} {k2103 : Option Value} {k3103 : Option Value} {k5103 : Option Value} {f105 : Addr} {oc105 : Value} {od105 : Option Addr} {an105 : Option Addr} {sl105 : Array (Option Value)} {kV105 : Value} {dc105 : Value} {pm105 : Value} {cd105 : Value} {ct105 : Value} {nm105 : Str} {qn105 : Str} {nn105 : Addr} {bs105 : List Value} {bm105 : List Value} {sb105 : List Value} {sn105 : List Str} {ab105 : Bool} {co105 : Option Bool} {dd105 : Option Addr} {k0105 : Option Value} {k1105 : Option Value} {k2105 : Option Value} {k3105 : Option Value} {k5105 : Option Value} {f107 : Addr} {oc107 : Value} {od107 : Option Addr} {an107 : Option Addr} {sl107 : Array (Option Value)} {kV107 : Value} {dc107 : Value} {pm107 : Value} {cd107 : Value} {ct107 : Value} {nm107 : Str} {qn107 : Str} {nn107 : Addr} {bs107 : List Value} {bm107 : List Value} {sb107 : List Value} {sn107 : List Str} {ab107 : Bool} {co107 : Option Bool} {dd107 : Option Addr} {k0107 : Option Value} {k1107 : Option Value} {k2107 : Option Value} {k3107 : Option Value} {k5107 : Option Value} {f109 : Addr} {oc109 : Value} {od109 : Option Addr} {an109 : Option Addr} {sl109 : Array (Option Value)} {kV109 : Value} {dc109 : Value} {pm109 : Value} {cd109 : Value} {ct109 : Value} {nm109 : Str} {qn109 : Str} {nn109 : Addr} {bs109 : List Value} {bm109 : List Value} {sb109 : List Value} {sn109 : List Str} {ab109 : Bool} {co109 : Option Bool} {dd109 : Option Addr} {k0109 : Option Value} {k1109 : Option Value} {k2109 : Option Value} {k3109 : Option Value} {k5109 : Option Value} {f115 : Addr} {oc115 : Value} {od115 : Option Addr} {an115 : Option Addr} {sl115 : Array (Option Value)} {kV115 : Value} {dc115 : Value} {pm115 : Value} {cd115 : Value} {ct115 : Value} {nm115 : Str} {qn115 : Str} {nn115 : Addr} {bs115 : List Value} {bm115 : List Value} {sb115 : List Value} {sn115 : List Str} {ab115 : Bool} {co115 : Option Bool} {dd115 : Option Addr} {k0115 : Option Value} {k1115 : Option Value} {k2115 : Option Value} {k3115 : Option Value} {k5115 : Option Value} {f116 : Addr} {oc116 : Value} {od116 : Option Addr} {an116 : Option Addr} {sl116 : Array (Option Value)} {kV116 : Value} {dc116 : Value} {pm116 : Value} {cd116 : Value} {ct116 : Value} {nm116 : Str} {qn116 : Str} {nn116 : Addr} {bs116 : List Value} {bm116 : List Value} {sb116 : List Value} {sn116 : List Str} {ab116 : Bool} {co116 : Option Bool} {dd116 : Option Addr} {k0116 : Option Value} {k1116 : Option Value} {k2116 : Option Value} {k3116 : Option Value} {k5116 : Option Value} {f117 : Addr} {oc117 : Value} {od117 : Option Addr} {an117 : Option Addr} {sl117 : Array (Option Value)} {kV117 : Value} {dc117 : Value} {pm117 : Value} {cd117 : Value} {ct117 : Value} {f118 : Addr} {oc118 : Value} {od118 : Option Addr} {an118 : Option Addr} {sl118 : Array (Option Value)} {kV118 : Value} {dc118 : Value} {pm118 : Value} {cd118 : Value} {ct118 : Value} {f119 : Addr} {oc119 : Value} {od119 : Option Addr} {an119 : Option Addr} {sl119 : Array (Option Value)} {kV119 : Value} {dc119 : Value} {pm119 : Value} {cd119 : Value} {ct119 : Value} {f120 : Addr} {oc120 : Value} {od120 : Option Addr} {an120 : Option Addr} {sl120 : Array (Option Value)} {kV120 : Value} {dc120 : Value} {pm120 : Value} {cd120 : Value} {ct120 : Value} {f121 : Addr} {oc121 : Value} {od121 : Option Addr} {an121 : Option Addr} {sl121 : Array (Option Value)} {kV121 : Value} {dc121 : Value} {pm121 : Value} {cd121 : Value} {ct121 : Value} {f122 : Addr} {oc122 : Value} {od122 : Option Addr} {an122 : Option Addr} {sl122 : Array (Option Value)} {kV122 : Value} {dc122 : Value} {pm122 : Value} {cd122 : Value} {ct122 : Value} {f123 : Addr} {oc123 : Value} {od123 : Option Addr} {an123 : Option Addr} {sl123 : Array (Option Value)} {kV123 : Value} {dc123 : Value} {pm123 : Value} {cd123 : Value} {ct123 : Value} {f124 : Addr} {oc124 : Value} {od124 : Option Addr} {an124 : Option Addr} {sl124 : Array (Option Value)} {kV124 : Value} {dc124 : Value} {pm124 : Value} {cd124 : Value} {ct124 : Value} {f125 : Addr} {oc125 : Value} {od125 : Option Addr} {an125 : Option Addr} {sl125 : Array (Option Value)} {kV125 : Value} {dc125 : Value} {pm125 : Value} {cd125 : Value} {ct125 : Value} {f126 : Addr} {oc126 : Value} {od126 : Option Addr} {an126 : Option Addr} {sl126 : Array (Option Value)} {kV126 : Value} {dc126 : Value} {pm126 : Value} {cd126 : Value} {ct126 : Value} {f127 : Addr} {oc127 : Value} {od127 : Option Addr} {an127 : Option Addr} {sl127 : Array (Option Value)} {kV127 : Value} {dc127 : Value} {pm127 : Value} {cd127 : Value} {ct127 : Value} {f128 : Addr} {oc128 : Value} {od128 : Option Addr} {an128 : Option Addr} {sl128 : Array (Option Value)} {kV128 : Value} {dc128 : Value} {pm128 : Value} {cd128 : Value} {ct128 : Value} {f129 : Addr} {oc129 : Value} {od129 : Option Addr} {an129 : Option Addr} {sl129 : Array (Option Value)} {kV129 : Value} {dc129 : Value} {pm129 : Value} {cd129 : Value} {ct129 : Value} {f130 : Addr} {oc130 : Value} {od130 : Option Addr} {an130 : Option Addr} {sl130 : Array (Option Value)} {kV130 : Value} {dc130 : Value} {pm130 : Value} {cd130 : Value} {ct130 : Value} {f131 : Addr} {oc131 : Value} {od131 : Option Addr} {an131 : Option Addr} {sl131 : Array (Option Value)} {kV131 : Value} {dc131 : Value} {pm131 : Value} {cd131 : Value} {ct131 : Value} {f132 : Addr} {oc132 : Value} {od132 : Option Addr} {an132 : Option Addr} {sl132 : Array (Option Value)} {kV132 : Value} {dc132 : Value} {pm132 : Value} {cd132 : Value} {ct132 : Value}
    (h1 : PySem.W.nsIn K mainGlobals "int" = some none)
    (h2 : PySem.W.nsIn K mainGlobals "list" = some none)
    (h3 : PySem.W.nsIn K mainGlobals "len" = some none)
    (h4 : PySem.W.nsIn K mainGlobals "abs" = some none)
    (h5 : PySem.W.nsIn K mainGlobals "isinstance" = some none)
    (h6 : PySem.W.nsIn K mainGlobals "tuple" = some none)
    (h7 : PySem.W.nsIn K mainGlobals "all" = some none)
    (h8 : PySem.W.nsIn K mainGlobals "zip" = some none)
    (h9 : PySem.W.nsIn K mainGlobals "dict" = some none)
    (h10 : PySem.W.nsIn K mainGlobals "bool" = some none)
    (h11 : PySem.W.nsIn K mainGlobals "str" = some none)
    (h12 : PySem.W.nsIn K mainGlobals "range" = some none)
    (h13 : PySem.W.nsIn K mainGlobals "ValueError" = some none)
    (h14 : PySem.W.nsIn K mainGlobals "LookupError" = some none)
    (h15 : PySem.W.nsIn K mainGlobals "IndexError" = some none)
    (h16 : PySem.W.nsIn K mainGlobals "KeyError" = some none)
    (h17 : PySem.W.nsIn K mainGlobals "Exception" = some none)
    (h18 : PySem.W.nsIn K mainGlobals "PooledError" = some (some (.ref z_PooledError)))
    (h19 : PySem.W.nsIn K mainGlobals "Missing" = some (some (.ref z_Missing)))
    (h20 : PySem.W.nsIn K mainGlobals "InvalidName" = some (some (.ref z_InvalidName)))
    (h21 : PySem.W.nsIn K mainGlobals "InvalidNumber" = some (some (.ref z_InvalidNumber)))
    (h22 : PySem.W.nsIn K mainGlobals "InvalidText" = some (some (.ref z_InvalidText)))
    (h23 : PySem.W.nsIn K mainGlobals "InvalidCircle" = some (some (.ref z_InvalidCircle)))
    (h24 : PySem.W.nsIn K mainGlobals "InvalidTie" = some (some (.ref z_InvalidTie)))
    (h25 : PySem.W.nsIn K mainGlobals "InvalidParting" = some (some (.ref z_InvalidParting)))
    (h26 : PySem.W.nsIn K mainGlobals "InvalidCase" = some (some (.ref z_InvalidCase)))
    (h27 : PySem.W.nsIn K mainGlobals "InvalidGrant" = some (some (.ref z_InvalidGrant)))
    (h28 : PySem.W.nsIn K mainGlobals "InvalidBan" = some (some (.ref z_InvalidBan)))
    (h29 : PySem.W.nsIn K mainGlobals "InvalidShare" = some (some (.ref z_InvalidShare)))
    (h30 : PySem.W.nsIn K mainGlobals "InvalidSaying" = some (some (.ref z_InvalidSaying)))
    (h31 : PySem.W.nsIn K mainGlobals "InvalidLog" = some (some (.ref z_InvalidLog)))
    (h32 : PySem.W.nsIn K mainGlobals "InvalidLot" = some (some (.ref z_InvalidLot)))
    (h33 : PySem.W.nsIn K mainGlobals "InvalidEyes" = some (some (.ref z_InvalidEyes)))
    (h34 : PySem.W.nsIn K mainGlobals "InvalidDeed" = some (some (.ref z_InvalidDeed)))
    (h35 : PySem.W.nsIn K mainGlobals "InvalidQuestion" = some (some (.ref z_InvalidQuestion)))
    (h36 : PySem.W.nsIn K mainGlobals "TooMany" = some (some (.ref z_TooMany)))
    (h37 : PySem.W.nsIn K mainGlobals "NotAlike" = some (some (.ref z_NotAlike)))
    (h38 : PySem.W.nsIn K mainGlobals "CommonShown" = some (some (.ref z_CommonShown)))
    (h39 : PySem.W.nsIn K mainGlobals "NotPooled" = some (some (.ref z_NotPooled)))
    (h40 : PySem.W.nsIn K mainGlobals "UnlikeSketches" = some (some (.ref z_UnlikeSketches)))
    (h41 : PySem.W.nsIn K mainGlobals "NotSafe" = some (some (.ref z_NotSafe)))
    (h42 : PySem.W.nsIn K mainGlobals "CannotStand" = some (some (.ref z_CannotStand)))
    (h43 : PySem.W.nsIn K mainGlobals "NameTaken" = some (some (.ref z_NameTaken)))
    (h44 : PySem.W.nsIn K mainGlobals "InUse" = some (some (.ref z_InUse)))
    (h45 : PySem.W.nsIn K mainGlobals "UnknownName" = some (some (.ref z_UnknownName)))
    (h46 : PySem.W.nsIn K mainGlobals "UnknownEye" = some (some (.ref z_UnknownEye)))
    (h47 : PySem.W.nsIn K mainGlobals "UnknownGrant" = some (some (.ref z_UnknownGrant)))
    (h48 : PySem.W.nsIn K mainGlobals "UnknownBan" = some (some (.ref z_UnknownBan)))
    (h49 : PySem.W.nsIn K mainGlobals "UnknownShare" = some (some (.ref z_UnknownShare)))
    (h50 : PySem.W.nsIn K mainGlobals "UnknownSaying" = some (some (.ref z_UnknownSaying)))
    (h51 : PySem.W.nsIn K mainGlobals "NothingLeft" = some (some (.ref z_NothingLeft)))
    (h52 : K.lookup z_InvalidName = some (excClassObj nm51 qn51 z_InvalidName nn51 bs51 bm51 true sn51 sb51 ab51 co51 dd51 k051 k151 k251 k351 k551 "ValueError.__new__"))
    (h53 : refsT tlV bm51 = true)
    (h54 : PySem.W.findIn K (.ref z_InvalidName) "__setattr__" = some (some (.builtin "object.__setattr__")))
    (h55 : PySem.W.subIn K (.ref z_InvalidName) (.type "BaseException") = some true)
    (h56 : PySem.W.typeIn K (.ref z_InvalidName) = some (.type "type"))
    (h57 : PySem.W.keepIn K (.ref z_InvalidName) = true)
    (h58 : xfB K z_InvalidName = true)
    (h59 : PySem.W.findIn K (.ref z_InvalidName) "__init__" = some (some (.ref f51)))
    (h60 : PySem.W.typeIn K (.ref f51) = some (.type "function"))
    (h61 : K.lookup f51 = some ⟨oc51, od51, .func (PySem.W.fnOf "__init__" "InvalidName.__init__" (defArgs s_InvalidName___init) (defBody s_InvalidName___init) (defScope s_InvalidName___init) .none kV51 dc51 pm51 an51 cd51 ct51), sl51⟩)
    (h62 : PySem.W.codeIn K cd51 "InvalidName.__init__" = true)
    (h63 : PySem.W.keepIn K (.ref f51) = true)
    (h64 : PySem.W.findIn K (.ref z_InvalidName) "__class__" = some (some (.builtin "object.__class__")))
    (h65 : PySem.W.specialIn K (.builtin "object.__class__") "__get__" = some (some (.builtin "getset_descriptor.__get__")))
    (h66 : PySem.W.takesIn K (.builtin "object.__class__") = some true)
    (h67 : PySem.W.mroIn K z_InvalidName (.type "object") = some true)
    (h68 : PySem.W.findIn K (.ref z_InvalidName) "value" = some none)
    (h69 : K.lookup z_InvalidNumber = some (excClassObj nm53 qn53 z_InvalidNumber nn53 bs53 bm53 true sn53 sb53 ab53 co53 dd53 k053 k153 k253 k353 k553 "ValueError.__new__"))
    (h70 : refsT tlV bm53 = true)
    (h71 : PySem.W.findIn K (.ref z_InvalidNumber) "__setattr__" = some (some (.builtin "object.__setattr__")))
    (h72 : PySem.W.subIn K (.ref z_InvalidNumber) (.type "BaseException") = some true)
    (h73 : PySem.W.typeIn K (.ref z_InvalidNumber) = some (.type "type"))
    (h74 : PySem.W.keepIn K (.ref z_InvalidNumber) = true)
    (h75 : xfB K z_InvalidNumber = true)
    (h76 : PySem.W.findIn K (.ref z_InvalidNumber) "__init__" = some (some (.ref f53)))
    (h77 : PySem.W.typeIn K (.ref f53) = some (.type "function"))
    (h78 : K.lookup f53 = some ⟨oc53, od53, .func (PySem.W.fnOf "__init__" "InvalidNumber.__init__" (defArgs s_InvalidNumber___init) (defBody s_InvalidNumber___init) (defScope s_InvalidNumber___init) .none kV53 dc53 pm53 an53 cd53 ct53), sl53⟩)
    (h79 : PySem.W.codeIn K cd53 "InvalidNumber.__init__" = true)
    (h80 : PySem.W.keepIn K (.ref f53) = true)
    (h81 : PySem.W.findIn K (.ref z_InvalidNumber) "__class__" = some (some (.builtin "object.__class__")))
    (h82 : PySem.W.specialIn K (.builtin "object.__class__") "__get__" = some (some (.builtin "getset_descriptor.__get__")))
    (h83 : PySem.W.takesIn K (.builtin "object.__class__") = some true)
    (h84 : PySem.W.mroIn K z_InvalidNumber (.type "object") = some true)
    (h85 : PySem.W.findIn K (.ref z_InvalidNumber) "value" = some none)
    (h86 : K.lookup z_InvalidText = some (excClassObj nm55 qn55 z_InvalidText nn55 bs55 bm55 true sn55 sb55 ab55 co55 dd55 k055 k155 k255 k355 k555 "ValueError.__new__"))
    (h87 : refsT tlV bm55 = true)
    (h88 : PySem.W.findIn K (.ref z_InvalidText) "__setattr__" = some (some (.builtin "object.__setattr__")))
    (h89 : PySem.W.subIn K (.ref z_InvalidText) (.type "BaseException") = some true)
    (h90 : PySem.W.typeIn K (.ref z_InvalidText) = some (.type "type"))
    (h91 : PySem.W.keepIn K (.ref z_InvalidText) = true)
    (h92 : xfB K z_InvalidText = true)
    (h93 : PySem.W.findIn K (.ref z_InvalidText) "__init__" = some (some (.ref f55)))
    (h94 : PySem.W.typeIn K (.ref f55) = some (.type "function"))
    (h95 : K.lookup f55 = some ⟨oc55, od55, .func (PySem.W.fnOf "__init__" "InvalidText.__init__" (defArgs s_InvalidText___init) (defBody s_InvalidText___init) (defScope s_InvalidText___init) .none kV55 dc55 pm55 an55 cd55 ct55), sl55⟩)
    (h96 : PySem.W.codeIn K cd55 "InvalidText.__init__" = true)
    (h97 : PySem.W.keepIn K (.ref f55) = true)
    (h98 : PySem.W.findIn K (.ref z_InvalidText) "__class__" = some (some (.builtin "object.__class__")))
    (h99 : PySem.W.specialIn K (.builtin "object.__class__") "__get__" = some (some (.builtin "getset_descriptor.__get__")))
    (h100 : PySem.W.takesIn K (.builtin "object.__class__") = some true)
    (h101 : PySem.W.mroIn K z_InvalidText (.type "object") = some true)
    (h102 : PySem.W.findIn K (.ref z_InvalidText) "at" = some none)
    (h103 : K.lookup z_InvalidCircle = some (excClassObj nm57 qn57 z_InvalidCircle nn57 bs57 bm57 true sn57 sb57 ab57 co57 dd57 k057 k157 k257 k357 k557 "ValueError.__new__"))
    (h104 : refsT tlV bm57 = true)
    (h105 : PySem.W.findIn K (.ref z_InvalidCircle) "__setattr__" = some (some (.builtin "object.__setattr__")))
    (h106 : PySem.W.subIn K (.ref z_InvalidCircle) (.type "BaseException") = some true)
    (h107 : PySem.W.typeIn K (.ref z_InvalidCircle) = some (.type "type"))
    (h108 : PySem.W.keepIn K (.ref z_InvalidCircle) = true)
    (h109 : xfB K z_InvalidCircle = true)
    (h110 : PySem.W.findIn K (.ref z_InvalidCircle) "__init__" = some (some (.ref f57)))
    (h111 : PySem.W.typeIn K (.ref f57) = some (.type "function"))
    (h112 : K.lookup f57 = some ⟨oc57, od57, .func (PySem.W.fnOf "__init__" "InvalidCircle.__init__" (defArgs s_InvalidCircle___init) (defBody s_InvalidCircle___init) (defScope s_InvalidCircle___init) .none kV57 dc57 pm57 an57 cd57 ct57), sl57⟩)
    (h113 : PySem.W.codeIn K cd57 "InvalidCircle.__init__" = true)
    (h114 : PySem.W.keepIn K (.ref f57) = true)
    (h115 : PySem.W.findIn K (.ref z_InvalidCircle) "__class__" = some (some (.builtin "object.__class__")))
    (h116 : PySem.W.specialIn K (.builtin "object.__class__") "__get__" = some (some (.builtin "getset_descriptor.__get__")))
    (h117 : PySem.W.takesIn K (.builtin "object.__class__") = some true)
    (h118 : PySem.W.mroIn K z_InvalidCircle (.type "object") = some true)
    (h119 : PySem.W.findIn K (.ref z_InvalidCircle) "at" = some none)
    (h120 : K.lookup z_InvalidTie = some (excClassObj nm59 qn59 z_InvalidTie nn59 bs59 bm59 true sn59 sb59 ab59 co59 dd59 k059 k159 k259 k359 k559 "ValueError.__new__"))
    (h121 : refsT tlV bm59 = true)
    (h122 : PySem.W.findIn K (.ref z_InvalidTie) "__setattr__" = some (some (.builtin "object.__setattr__")))
    (h123 : PySem.W.subIn K (.ref z_InvalidTie) (.type "BaseException") = some true)
    (h124 : PySem.W.typeIn K (.ref z_InvalidTie) = some (.type "type"))
    (h125 : PySem.W.keepIn K (.ref z_InvalidTie) = true)
    (h126 : xfB K z_InvalidTie = true)
    (h127 : PySem.W.findIn K (.ref z_InvalidTie) "__init__" = some (some (.ref f59)))
    (h128 : PySem.W.typeIn K (.ref f59) = some (.type "function"))
    (h129 : K.lookup f59 = some ⟨oc59, od59, .func (PySem.W.fnOf "__init__" "InvalidTie.__init__" (defArgs s_InvalidTie___init) (defBody s_InvalidTie___init) (defScope s_InvalidTie___init) .none kV59 dc59 pm59 an59 cd59 ct59), sl59⟩)
    (h130 : PySem.W.codeIn K cd59 "InvalidTie.__init__" = true)
    (h131 : PySem.W.keepIn K (.ref f59) = true)
    (h132 : PySem.W.findIn K (.ref z_InvalidTie) "__class__" = some (some (.builtin "object.__class__")))
    (h133 : PySem.W.specialIn K (.builtin "object.__class__") "__get__" = some (some (.builtin "getset_descriptor.__get__")))
    (h134 : PySem.W.takesIn K (.builtin "object.__class__") = some true)
    (h135 : PySem.W.mroIn K z_InvalidTie (.type "object") = some true)
    (h136 : PySem.W.findIn K (.ref z_InvalidTie) "at" = some none)
    (h137 : K.lookup z_InvalidParting = some (excClassObj nm61 qn61 z_InvalidParting nn61 bs61 bm61 true sn61 sb61 ab61 co61 dd61 k061 k161 k261 k361 k561 "ValueError.__new__"))
    (h138 : refsT tlV bm61 = true)
    (h139 : PySem.W.findIn K (.ref z_InvalidParting) "__setattr__" = some (some (.builtin "object.__setattr__")))
    (h140 : PySem.W.subIn K (.ref z_InvalidParting) (.type "BaseException") = some true)
    (h141 : PySem.W.typeIn K (.ref z_InvalidParting) = some (.type "type"))
    (h142 : PySem.W.keepIn K (.ref z_InvalidParting) = true)
    (h143 : xfB K z_InvalidParting = true)
    (h144 : PySem.W.findIn K (.ref z_InvalidParting) "__init__" = some (some (.ref f61)))
    (h145 : PySem.W.typeIn K (.ref f61) = some (.type "function"))
    (h146 : K.lookup f61 = some ⟨oc61, od61, .func (PySem.W.fnOf "__init__" "InvalidParting.__init__" (defArgs s_InvalidParting___init) (defBody s_InvalidParting___init) (defScope s_InvalidParting___init) .none kV61 dc61 pm61 an61 cd61 ct61), sl61⟩)
    (h147 : PySem.W.codeIn K cd61 "InvalidParting.__init__" = true)
    (h148 : PySem.W.keepIn K (.ref f61) = true)
    (h149 : PySem.W.findIn K (.ref z_InvalidParting) "__class__" = some (some (.builtin "object.__class__")))
    (h150 : PySem.W.specialIn K (.builtin "object.__class__") "__get__" = some (some (.builtin "getset_descriptor.__get__")))
    (h151 : PySem.W.takesIn K (.builtin "object.__class__") = some true)
    (h152 : PySem.W.mroIn K z_InvalidParting (.type "object") = some true)
    (h153 : PySem.W.findIn K (.ref z_InvalidParting) "value" = some none)
    (h154 : K.lookup z_InvalidCase = some (excClassObj nm63 qn63 z_InvalidCase nn63 bs63 bm63 true sn63 sb63 ab63 co63 dd63 k063 k163 k263 k363 k563 "ValueError.__new__"))
    (h155 : refsT tlV bm63 = true)
    (h156 : PySem.W.findIn K (.ref z_InvalidCase) "__setattr__" = some (some (.builtin "object.__setattr__")))
    (h157 : PySem.W.subIn K (.ref z_InvalidCase) (.type "BaseException") = some true)
    (h158 : PySem.W.typeIn K (.ref z_InvalidCase) = some (.type "type"))
    (h159 : PySem.W.keepIn K (.ref z_InvalidCase) = true)
    (h160 : xfB K z_InvalidCase = true)
    (h161 : PySem.W.findIn K (.ref z_InvalidCase) "__init__" = some (some (.ref f63)))
    (h162 : PySem.W.typeIn K (.ref f63) = some (.type "function"))
    (h163 : K.lookup f63 = some ⟨oc63, od63, .func (PySem.W.fnOf "__init__" "InvalidCase.__init__" (defArgs s_InvalidCase___init) (defBody s_InvalidCase___init) (defScope s_InvalidCase___init) .none kV63 dc63 pm63 an63 cd63 ct63), sl63⟩)
    (h164 : PySem.W.codeIn K cd63 "InvalidCase.__init__" = true)
    (h165 : PySem.W.keepIn K (.ref f63) = true)
    (h166 : PySem.W.findIn K (.ref z_InvalidCase) "__class__" = some (some (.builtin "object.__class__")))
    (h167 : PySem.W.specialIn K (.builtin "object.__class__") "__get__" = some (some (.builtin "getset_descriptor.__get__")))
    (h168 : PySem.W.takesIn K (.builtin "object.__class__") = some true)
    (h169 : PySem.W.mroIn K z_InvalidCase (.type "object") = some true)
    (h170 : PySem.W.findIn K (.ref z_InvalidCase) "value" = some none)
    (h171 : K.lookup z_InvalidGrant = some (excClassObj nm65 qn65 z_InvalidGrant nn65 bs65 bm65 true sn65 sb65 ab65 co65 dd65 k065 k165 k265 k365 k565 "ValueError.__new__"))
    (h172 : refsT tlV bm65 = true)
    (h173 : PySem.W.findIn K (.ref z_InvalidGrant) "__setattr__" = some (some (.builtin "object.__setattr__")))
    (h174 : PySem.W.subIn K (.ref z_InvalidGrant) (.type "BaseException") = some true)
    (h175 : PySem.W.typeIn K (.ref z_InvalidGrant) = some (.type "type"))
    (h176 : PySem.W.keepIn K (.ref z_InvalidGrant) = true)
    (h177 : xfB K z_InvalidGrant = true)
    (h178 : PySem.W.findIn K (.ref z_InvalidGrant) "__init__" = some (some (.ref f65)))
    (h179 : PySem.W.typeIn K (.ref f65) = some (.type "function"))
    (h180 : K.lookup f65 = some ⟨oc65, od65, .func (PySem.W.fnOf "__init__" "InvalidGrant.__init__" (defArgs s_InvalidGrant___init) (defBody s_InvalidGrant___init) (defScope s_InvalidGrant___init) .none kV65 dc65 pm65 an65 cd65 ct65), sl65⟩)
    (h181 : PySem.W.codeIn K cd65 "InvalidGrant.__init__" = true)
    (h182 : PySem.W.keepIn K (.ref f65) = true)
    (h183 : PySem.W.findIn K (.ref z_InvalidGrant) "__class__" = some (some (.builtin "object.__class__")))
    (h184 : PySem.W.specialIn K (.builtin "object.__class__") "__get__" = some (some (.builtin "getset_descriptor.__get__")))
    (h185 : PySem.W.takesIn K (.builtin "object.__class__") = some true)
    (h186 : PySem.W.mroIn K z_InvalidGrant (.type "object") = some true)
    (h187 : PySem.W.findIn K (.ref z_InvalidGrant) "at" = some none)
    (h188 : K.lookup z_InvalidBan = some (excClassObj nm67 qn67 z_InvalidBan nn67 bs67 bm67 true sn67 sb67 ab67 co67 dd67 k067 k167 k267 k367 k567 "ValueError.__new__"))
    (h189 : refsT tlV bm67 = true)
    (h190 : PySem.W.findIn K (.ref z_InvalidBan) "__setattr__" = some (some (.builtin "object.__setattr__")))
    (h191 : PySem.W.subIn K (.ref z_InvalidBan) (.type "BaseException") = some true)
    (h192 : PySem.W.typeIn K (.ref z_InvalidBan) = some (.type "type"))
    (h193 : PySem.W.keepIn K (.ref z_InvalidBan) = true)
    (h194 : xfB K z_InvalidBan = true)
    (h195 : PySem.W.findIn K (.ref z_InvalidBan) "__init__" = some (some (.ref f67)))
    (h196 : PySem.W.typeIn K (.ref f67) = some (.type "function"))
    (h197 : K.lookup f67 = some ⟨oc67, od67, .func (PySem.W.fnOf "__init__" "InvalidBan.__init__" (defArgs s_InvalidBan___init) (defBody s_InvalidBan___init) (defScope s_InvalidBan___init) .none kV67 dc67 pm67 an67 cd67 ct67), sl67⟩)
    (h198 : PySem.W.codeIn K cd67 "InvalidBan.__init__" = true)
    (h199 : PySem.W.keepIn K (.ref f67) = true)
    (h200 : PySem.W.findIn K (.ref z_InvalidBan) "__class__" = some (some (.builtin "object.__class__")))
    (h201 : PySem.W.specialIn K (.builtin "object.__class__") "__get__" = some (some (.builtin "getset_descriptor.__get__")))
    (h202 : PySem.W.takesIn K (.builtin "object.__class__") = some true)
    (h203 : PySem.W.mroIn K z_InvalidBan (.type "object") = some true)
    (h204 : PySem.W.findIn K (.ref z_InvalidBan) "at" = some none)
    (h205 : K.lookup z_InvalidShare = some (excClassObj nm69 qn69 z_InvalidShare nn69 bs69 bm69 true sn69 sb69 ab69 co69 dd69 k069 k169 k269 k369 k569 "ValueError.__new__"))
    (h206 : refsT tlV bm69 = true)
    (h207 : PySem.W.findIn K (.ref z_InvalidShare) "__setattr__" = some (some (.builtin "object.__setattr__")))
    (h208 : PySem.W.subIn K (.ref z_InvalidShare) (.type "BaseException") = some true)
    (h209 : PySem.W.typeIn K (.ref z_InvalidShare) = some (.type "type"))
    (h210 : PySem.W.keepIn K (.ref z_InvalidShare) = true)
    (h211 : xfB K z_InvalidShare = true)
    (h212 : PySem.W.findIn K (.ref z_InvalidShare) "__init__" = some (some (.ref f69)))
    (h213 : PySem.W.typeIn K (.ref f69) = some (.type "function"))
    (h214 : K.lookup f69 = some ⟨oc69, od69, .func (PySem.W.fnOf "__init__" "InvalidShare.__init__" (defArgs s_InvalidShare___init) (defBody s_InvalidShare___init) (defScope s_InvalidShare___init) .none kV69 dc69 pm69 an69 cd69 ct69), sl69⟩)
    (h215 : PySem.W.codeIn K cd69 "InvalidShare.__init__" = true)
    (h216 : PySem.W.keepIn K (.ref f69) = true)
    (h217 : PySem.W.findIn K (.ref z_InvalidShare) "__class__" = some (some (.builtin "object.__class__")))
    (h218 : PySem.W.specialIn K (.builtin "object.__class__") "__get__" = some (some (.builtin "getset_descriptor.__get__")))
    (h219 : PySem.W.takesIn K (.builtin "object.__class__") = some true)
    (h220 : PySem.W.mroIn K z_InvalidShare (.type "object") = some true)
    (h221 : PySem.W.findIn K (.ref z_InvalidShare) "at" = some none)
    (h222 : K.lookup z_InvalidSaying = some (excClassObj nm71 qn71 z_InvalidSaying nn71 bs71 bm71 true sn71 sb71 ab71 co71 dd71 k071 k171 k271 k371 k571 "ValueError.__new__"))
    (h223 : refsT tlV bm71 = true)
    (h224 : PySem.W.findIn K (.ref z_InvalidSaying) "__setattr__" = some (some (.builtin "object.__setattr__")))
    (h225 : PySem.W.subIn K (.ref z_InvalidSaying) (.type "BaseException") = some true)
    (h226 : PySem.W.typeIn K (.ref z_InvalidSaying) = some (.type "type"))
    (h227 : PySem.W.keepIn K (.ref z_InvalidSaying) = true)
    (h228 : xfB K z_InvalidSaying = true)
    (h229 : PySem.W.findIn K (.ref z_InvalidSaying) "__init__" = some (some (.ref f71)))
    (h230 : PySem.W.typeIn K (.ref f71) = some (.type "function"))
    (h231 : K.lookup f71 = some ⟨oc71, od71, .func (PySem.W.fnOf "__init__" "InvalidSaying.__init__" (defArgs s_InvalidSaying___init) (defBody s_InvalidSaying___init) (defScope s_InvalidSaying___init) .none kV71 dc71 pm71 an71 cd71 ct71), sl71⟩)
    (h232 : PySem.W.codeIn K cd71 "InvalidSaying.__init__" = true)
    (h233 : PySem.W.keepIn K (.ref f71) = true)
    (h234 : PySem.W.findIn K (.ref z_InvalidSaying) "__class__" = some (some (.builtin "object.__class__")))
    (h235 : PySem.W.specialIn K (.builtin "object.__class__") "__get__" = some (some (.builtin "getset_descriptor.__get__")))
    (h236 : PySem.W.takesIn K (.builtin "object.__class__") = some true)
    (h237 : PySem.W.mroIn K z_InvalidSaying (.type "object") = some true)
    (h238 : PySem.W.findIn K (.ref z_InvalidSaying) "at" = some none)
    (h239 : K.lookup z_InvalidLog = some (excClassObj nm73 qn73 z_InvalidLog nn73 bs73 bm73 true sn73 sb73 ab73 co73 dd73 k073 k173 k273 k373 k573 "ValueError.__new__"))
    (h240 : refsT tlV bm73 = true)
    (h241 : PySem.W.findIn K (.ref z_InvalidLog) "__setattr__" = some (some (.builtin "object.__setattr__")))
    (h242 : PySem.W.subIn K (.ref z_InvalidLog) (.type "BaseException") = some true)
    (h243 : PySem.W.typeIn K (.ref z_InvalidLog) = some (.type "type"))
    (h244 : PySem.W.keepIn K (.ref z_InvalidLog) = true)
    (h245 : xfB K z_InvalidLog = true)
    (h246 : PySem.W.findIn K (.ref z_InvalidLog) "__init__" = some (some (.ref f73)))
    (h247 : PySem.W.typeIn K (.ref f73) = some (.type "function"))
    (h248 : K.lookup f73 = some ⟨oc73, od73, .func (PySem.W.fnOf "__init__" "InvalidLog.__init__" (defArgs s_InvalidLog___init) (defBody s_InvalidLog___init) (defScope s_InvalidLog___init) .none kV73 dc73 pm73 an73 cd73 ct73), sl73⟩)
    (h249 : PySem.W.codeIn K cd73 "InvalidLog.__init__" = true)
    (h250 : PySem.W.keepIn K (.ref f73) = true)
    (h251 : PySem.W.findIn K (.ref z_InvalidLog) "__class__" = some (some (.builtin "object.__class__")))
    (h252 : PySem.W.specialIn K (.builtin "object.__class__") "__get__" = some (some (.builtin "getset_descriptor.__get__")))
    (h253 : PySem.W.takesIn K (.builtin "object.__class__") = some true)
    (h254 : PySem.W.mroIn K z_InvalidLog (.type "object") = some true)
    (h255 : PySem.W.findIn K (.ref z_InvalidLog) "at" = some none)
    (h256 : K.lookup z_InvalidLot = some (excClassObj nm75 qn75 z_InvalidLot nn75 bs75 bm75 true sn75 sb75 ab75 co75 dd75 k075 k175 k275 k375 k575 "ValueError.__new__"))
    (h257 : refsT tlV bm75 = true)
    (h258 : PySem.W.findIn K (.ref z_InvalidLot) "__setattr__" = some (some (.builtin "object.__setattr__")))
    (h259 : PySem.W.subIn K (.ref z_InvalidLot) (.type "BaseException") = some true)
    (h260 : PySem.W.typeIn K (.ref z_InvalidLot) = some (.type "type"))
    (h261 : PySem.W.keepIn K (.ref z_InvalidLot) = true)
    (h262 : xfB K z_InvalidLot = true)
    (h263 : PySem.W.findIn K (.ref z_InvalidLot) "__init__" = some (some (.ref f75)))
    (h264 : PySem.W.typeIn K (.ref f75) = some (.type "function"))
    (h265 : K.lookup f75 = some ⟨oc75, od75, .func (PySem.W.fnOf "__init__" "InvalidLot.__init__" (defArgs s_InvalidLot___init) (defBody s_InvalidLot___init) (defScope s_InvalidLot___init) .none kV75 dc75 pm75 an75 cd75 ct75), sl75⟩)
    (h266 : PySem.W.codeIn K cd75 "InvalidLot.__init__" = true)
    (h267 : PySem.W.keepIn K (.ref f75) = true)
    (h268 : PySem.W.findIn K (.ref z_InvalidLot) "__class__" = some (some (.builtin "object.__class__")))
    (h269 : PySem.W.specialIn K (.builtin "object.__class__") "__get__" = some (some (.builtin "getset_descriptor.__get__")))
    (h270 : PySem.W.takesIn K (.builtin "object.__class__") = some true)
    (h271 : PySem.W.mroIn K z_InvalidLot (.type "object") = some true)
    (h272 : PySem.W.findIn K (.ref z_InvalidLot) "at" = some none)
    (h273 : PySem.W.excIn K z_InvalidEyes tlV "ValueError.__new__" = true)
    (h274 : PySem.W.subIn K (.ref z_InvalidEyes) (.type "BaseException") = some true)
    (h275 : PySem.W.typeIn K (.ref z_InvalidEyes) = some (.type "type"))
    (h276 : PySem.W.keepIn K (.ref z_InvalidEyes) = true)
    (h277 : xfB K z_InvalidEyes = true)
    (h278 : PySem.W.findIn K (.ref z_InvalidEyes) "__class__" = some (some (.builtin "object.__class__")))
    (h279 : PySem.W.specialIn K (.builtin "object.__class__") "__get__" = some (some (.builtin "getset_descriptor.__get__")))
    (h280 : PySem.W.takesIn K (.builtin "object.__class__") = some true)
    (h281 : PySem.W.mroIn K z_InvalidEyes (.type "object") = some true)
    (h282 : K.lookup z_InvalidDeed = some (excClassObj nm78 qn78 z_InvalidDeed nn78 bs78 bm78 true sn78 sb78 ab78 co78 dd78 k078 k178 k278 k378 k578 "ValueError.__new__"))
    (h283 : refsT tlV bm78 = true)
    (h284 : PySem.W.findIn K (.ref z_InvalidDeed) "__setattr__" = some (some (.builtin "object.__setattr__")))
    (h285 : PySem.W.subIn K (.ref z_InvalidDeed) (.type "BaseException") = some true)
    (h286 : PySem.W.typeIn K (.ref z_InvalidDeed) = some (.type "type"))
    (h287 : PySem.W.keepIn K (.ref z_InvalidDeed) = true)
    (h288 : xfB K z_InvalidDeed = true)
    (h289 : PySem.W.findIn K (.ref z_InvalidDeed) "__init__" = some (some (.ref f78)))
    (h290 : PySem.W.typeIn K (.ref f78) = some (.type "function"))
    (h291 : K.lookup f78 = some ⟨oc78, od78, .func (PySem.W.fnOf "__init__" "InvalidDeed.__init__" (defArgs s_InvalidDeed___init) (defBody s_InvalidDeed___init) (defScope s_InvalidDeed___init) .none kV78 dc78 pm78 an78 cd78 ct78), sl78⟩)
    (h292 : PySem.W.codeIn K cd78 "InvalidDeed.__init__" = true)
    (h293 : PySem.W.keepIn K (.ref f78) = true)
    (h294 : PySem.W.findIn K (.ref z_InvalidDeed) "__class__" = some (some (.builtin "object.__class__")))
    (h295 : PySem.W.specialIn K (.builtin "object.__class__") "__get__" = some (some (.builtin "getset_descriptor.__get__")))
    (h296 : PySem.W.takesIn K (.builtin "object.__class__") = some true)
    (h297 : PySem.W.mroIn K z_InvalidDeed (.type "object") = some true)
    (h298 : PySem.W.findIn K (.ref z_InvalidDeed) "at" = some none)
    (h299 : PySem.W.excIn K z_InvalidQuestion tlV "ValueError.__new__" = true)
    (h300 : PySem.W.subIn K (.ref z_InvalidQuestion) (.type "BaseException") = some true)
    (h301 : PySem.W.typeIn K (.ref z_InvalidQuestion) = some (.type "type"))
    (h302 : PySem.W.keepIn K (.ref z_InvalidQuestion) = true)
    (h303 : xfB K z_InvalidQuestion = true)
    (h304 : PySem.W.findIn K (.ref z_InvalidQuestion) "__class__" = some (some (.builtin "object.__class__")))
    (h305 : PySem.W.specialIn K (.builtin "object.__class__") "__get__" = some (some (.builtin "getset_descriptor.__get__")))
    (h306 : PySem.W.takesIn K (.builtin "object.__class__") = some true)
    (h307 : PySem.W.mroIn K z_InvalidQuestion (.type "object") = some true)
    (h308 : K.lookup z_TooMany = some (excClassObj nm81 qn81 z_TooMany nn81 bs81 bm81 true sn81 sb81 ab81 co81 dd81 k081 k181 k281 k381 k581 "ValueError.__new__"))
    (h309 : refsT tlV bm81 = true)
    (h310 : PySem.W.findIn K (.ref z_TooMany) "__setattr__" = some (some (.builtin "object.__setattr__")))
    (h311 : PySem.W.subIn K (.ref z_TooMany) (.type "BaseException") = some true)
    (h312 : PySem.W.typeIn K (.ref z_TooMany) = some (.type "type"))
    (h313 : PySem.W.keepIn K (.ref z_TooMany) = true)
    (h314 : xfB K z_TooMany = true)
    (h315 : PySem.W.findIn K (.ref z_TooMany) "__init__" = some (some (.ref f81)))
    (h316 : PySem.W.typeIn K (.ref f81) = some (.type "function"))
    (h317 : K.lookup f81 = some ⟨oc81, od81, .func (PySem.W.fnOf "__init__" "TooMany.__init__" (defArgs s_TooMany___init) (defBody s_TooMany___init) (defScope s_TooMany___init) .none kV81 dc81 pm81 an81 cd81 ct81), sl81⟩)
    (h318 : PySem.W.codeIn K cd81 "TooMany.__init__" = true)
    (h319 : PySem.W.keepIn K (.ref f81) = true)
    (h320 : PySem.W.findIn K (.ref z_TooMany) "__class__" = some (some (.builtin "object.__class__")))
    (h321 : PySem.W.specialIn K (.builtin "object.__class__") "__get__" = some (some (.builtin "getset_descriptor.__get__")))
    (h322 : PySem.W.takesIn K (.builtin "object.__class__") = some true)
    (h323 : PySem.W.mroIn K z_TooMany (.type "object") = some true)
    (h324 : PySem.W.findIn K (.ref z_TooMany) "what" = some none)
    (h325 : PySem.W.findIn K (.ref z_TooMany) "most" = some none)
    (h326 : K.lookup z_NotAlike = some (excClassObj nm84 qn84 z_NotAlike nn84 bs84 bm84 true sn84 sb84 ab84 co84 dd84 k084 k184 k284 k384 k584 "ValueError.__new__"))
    (h327 : refsT tlV bm84 = true)
    (h328 : PySem.W.findIn K (.ref z_NotAlike) "__setattr__" = some (some (.builtin "object.__setattr__")))
    (h329 : PySem.W.subIn K (.ref z_NotAlike) (.type "BaseException") = some true)
    (h330 : PySem.W.typeIn K (.ref z_NotAlike) = some (.type "type"))
    (h331 : PySem.W.keepIn K (.ref z_NotAlike) = true)
    (h332 : xfB K z_NotAlike = true)
    (h333 : PySem.W.findIn K (.ref z_NotAlike) "__init__" = some (some (.ref f84)))
    (h334 : PySem.W.typeIn K (.ref f84) = some (.type "function"))
    (h335 : K.lookup f84 = some ⟨oc84, od84, .func (PySem.W.fnOf "__init__" "NotAlike.__init__" (defArgs s_NotAlike___init) (defBody s_NotAlike___init) (defScope s_NotAlike___init) .none kV84 dc84 pm84 an84 cd84 ct84), sl84⟩)
    (h336 : PySem.W.codeIn K cd84 "NotAlike.__init__" = true)
    (h337 : PySem.W.keepIn K (.ref f84) = true)
    (h338 : PySem.W.findIn K (.ref z_NotAlike) "__class__" = some (some (.builtin "object.__class__")))
    (h339 : PySem.W.specialIn K (.builtin "object.__class__") "__get__" = some (some (.builtin "getset_descriptor.__get__")))
    (h340 : PySem.W.takesIn K (.builtin "object.__class__") = some true)
    (h341 : PySem.W.mroIn K z_NotAlike (.type "object") = some true)
    (h342 : PySem.W.findIn K (.ref z_NotAlike) "one" = some none)
    (h343 : PySem.W.findIn K (.ref z_NotAlike) "other" = some none)
    (h344 : K.lookup z_CommonShown = some (excClassObj nm87 qn87 z_CommonShown nn87 bs87 bm87 true sn87 sb87 ab87 co87 dd87 k087 k187 k287 k387 k587 "ValueError.__new__"))
    (h345 : refsT tlV bm87 = true)
    (h346 : PySem.W.findIn K (.ref z_CommonShown) "__setattr__" = some (some (.builtin "object.__setattr__")))
    (h347 : PySem.W.subIn K (.ref z_CommonShown) (.type "BaseException") = some true)
    (h348 : PySem.W.typeIn K (.ref z_CommonShown) = some (.type "type"))
    (h349 : PySem.W.keepIn K (.ref z_CommonShown) = true)
    (h350 : xfB K z_CommonShown = true)
    (h351 : PySem.W.findIn K (.ref z_CommonShown) "__init__" = some (some (.ref f87)))
    (h352 : PySem.W.typeIn K (.ref f87) = some (.type "function"))
    (h353 : K.lookup f87 = some ⟨oc87, od87, .func (PySem.W.fnOf "__init__" "CommonShown.__init__" (defArgs s_CommonShown___init) (defBody s_CommonShown___init) (defScope s_CommonShown___init) .none kV87 dc87 pm87 an87 cd87 ct87), sl87⟩)
    (h354 : PySem.W.codeIn K cd87 "CommonShown.__init__" = true)
    (h355 : PySem.W.keepIn K (.ref f87) = true)
    (h356 : PySem.W.findIn K (.ref z_CommonShown) "__class__" = some (some (.builtin "object.__class__")))
    (h357 : PySem.W.specialIn K (.builtin "object.__class__") "__get__" = some (some (.builtin "getset_descriptor.__get__")))
    (h358 : PySem.W.takesIn K (.builtin "object.__class__") = some true)
    (h359 : PySem.W.mroIn K z_CommonShown (.type "object") = some true)
    (h360 : PySem.W.findIn K (.ref z_CommonShown) "at" = some none)
    (h361 : PySem.W.excIn K z_NotPooled tlV "ValueError.__new__" = true)
    (h362 : PySem.W.subIn K (.ref z_NotPooled) (.type "BaseException") = some true)
    (h363 : PySem.W.typeIn K (.ref z_NotPooled) = some (.type "type"))
    (h364 : PySem.W.keepIn K (.ref z_NotPooled) = true)
    (h365 : xfB K z_NotPooled = true)
    (h366 : PySem.W.findIn K (.ref z_NotPooled) "__class__" = some (some (.builtin "object.__class__")))
    (h367 : PySem.W.specialIn K (.builtin "object.__class__") "__get__" = some (some (.builtin "getset_descriptor.__get__")))
    (h368 : PySem.W.takesIn K (.builtin "object.__class__") = some true)
    (h369 : PySem.W.mroIn K z_NotPooled (.type "object") = some true)
    (h370 : PySem.W.excIn K z_UnlikeSketches tlV "ValueError.__new__" = true)
    (h371 : PySem.W.subIn K (.ref z_UnlikeSketches) (.type "BaseException") = some true)
    (h372 : PySem.W.typeIn K (.ref z_UnlikeSketches) = some (.type "type"))
    (h373 : PySem.W.keepIn K (.ref z_UnlikeSketches) = true)
    (h374 : xfB K z_UnlikeSketches = true)
    (h375 : PySem.W.findIn K (.ref z_UnlikeSketches) "__class__" = some (some (.builtin "object.__class__")))
    (h376 : PySem.W.specialIn K (.builtin "object.__class__") "__get__" = some (some (.builtin "getset_descriptor.__get__")))
    (h377 : PySem.W.takesIn K (.builtin "object.__class__") = some true)
    (h378 : PySem.W.mroIn K z_UnlikeSketches (.type "object") = some true)
    (h379 : K.lookup z_NotSafe = some (excClassObj nm91 qn91 z_NotSafe nn91 bs91 bm91 true sn91 sb91 ab91 co91 dd91 k091 k191 k291 k391 k591 "ValueError.__new__"))
    (h380 : refsT tlV bm91 = true)
    (h381 : PySem.W.findIn K (.ref z_NotSafe) "__setattr__" = some (some (.builtin "object.__setattr__")))
    (h382 : PySem.W.subIn K (.ref z_NotSafe) (.type "BaseException") = some true)
    (h383 : PySem.W.typeIn K (.ref z_NotSafe) = some (.type "type"))
    (h384 : PySem.W.keepIn K (.ref z_NotSafe) = true)
    (h385 : xfB K z_NotSafe = true)
    (h386 : PySem.W.findIn K (.ref z_NotSafe) "__init__" = some (some (.ref f91)))
    (h387 : PySem.W.typeIn K (.ref f91) = some (.type "function"))
    (h388 : K.lookup f91 = some ⟨oc91, od91, .func (PySem.W.fnOf "__init__" "NotSafe.__init__" (defArgs s_NotSafe___init) (defBody s_NotSafe___init) (defScope s_NotSafe___init) .none kV91 dc91 pm91 an91 cd91 ct91), sl91⟩)
    (h389 : PySem.W.codeIn K cd91 "NotSafe.__init__" = true)
    (h390 : PySem.W.keepIn K (.ref f91) = true)
    (h391 : PySem.W.findIn K (.ref z_NotSafe) "__class__" = some (some (.builtin "object.__class__")))
    (h392 : PySem.W.specialIn K (.builtin "object.__class__") "__get__" = some (some (.builtin "getset_descriptor.__get__")))
    (h393 : PySem.W.takesIn K (.builtin "object.__class__") = some true)
    (h394 : PySem.W.mroIn K z_NotSafe (.type "object") = some true)
    (h395 : PySem.W.findIn K (.ref z_NotSafe) "at" = some none)
    (h396 : K.lookup z_CannotStand = some (excClassObj nm93 qn93 z_CannotStand nn93 bs93 bm93 true sn93 sb93 ab93 co93 dd93 k093 k193 k293 k393 k593 "ValueError.__new__"))
    (h397 : refsT tlV bm93 = true)
    (h398 : PySem.W.findIn K (.ref z_CannotStand) "__setattr__" = some (some (.builtin "object.__setattr__")))
    (h399 : PySem.W.subIn K (.ref z_CannotStand) (.type "BaseException") = some true)
    (h400 : PySem.W.typeIn K (.ref z_CannotStand) = some (.type "type"))
    (h401 : PySem.W.keepIn K (.ref z_CannotStand) = true)
    (h402 : xfB K z_CannotStand = true)
    (h403 : PySem.W.findIn K (.ref z_CannotStand) "__init__" = some (some (.ref f93)))
    (h404 : PySem.W.typeIn K (.ref f93) = some (.type "function"))
    (h405 : K.lookup f93 = some ⟨oc93, od93, .func (PySem.W.fnOf "__init__" "CannotStand.__init__" (defArgs s_CannotStand___init) (defBody s_CannotStand___init) (defScope s_CannotStand___init) .none kV93 dc93 pm93 an93 cd93 ct93), sl93⟩)
    (h406 : PySem.W.codeIn K cd93 "CannotStand.__init__" = true)
    (h407 : PySem.W.keepIn K (.ref f93) = true)
    (h408 : PySem.W.findIn K (.ref z_CannotStand) "__class__" = some (some (.builtin "object.__class__")))
    (h409 : PySem.W.specialIn K (.builtin "object.__class__") "__get__" = some (some (.builtin "getset_descriptor.__get__")))
    (h410 : PySem.W.takesIn K (.builtin "object.__class__") = some true)
    (h411 : PySem.W.mroIn K z_CannotStand (.type "object") = some true)
    (h412 : PySem.W.findIn K (.ref z_CannotStand) "at" = some none)
    (h413 : K.lookup z_NameTaken = some (excClassObj nm95 qn95 z_NameTaken nn95 bs95 bm95 true sn95 sb95 ab95 co95 dd95 k095 k195 k295 k395 k595 "ValueError.__new__"))
    (h414 : refsT tlV bm95 = true)
    (h415 : PySem.W.findIn K (.ref z_NameTaken) "__setattr__" = some (some (.builtin "object.__setattr__")))
    (h416 : PySem.W.subIn K (.ref z_NameTaken) (.type "BaseException") = some true)
    (h417 : PySem.W.typeIn K (.ref z_NameTaken) = some (.type "type"))
    (h418 : PySem.W.keepIn K (.ref z_NameTaken) = true)
    (h419 : xfB K z_NameTaken = true)
    (h420 : PySem.W.findIn K (.ref z_NameTaken) "__init__" = some (some (.ref f95)))
    (h421 : PySem.W.typeIn K (.ref f95) = some (.type "function"))
    (h422 : K.lookup f95 = some ⟨oc95, od95, .func (PySem.W.fnOf "__init__" "NameTaken.__init__" (defArgs s_NameTaken___init) (defBody s_NameTaken___init) (defScope s_NameTaken___init) .none kV95 dc95 pm95 an95 cd95 ct95), sl95⟩)
    (h423 : PySem.W.codeIn K cd95 "NameTaken.__init__" = true)
    (h424 : PySem.W.keepIn K (.ref f95) = true)
    (h425 : PySem.W.findIn K (.ref z_NameTaken) "__class__" = some (some (.builtin "object.__class__")))
    (h426 : PySem.W.specialIn K (.builtin "object.__class__") "__get__" = some (some (.builtin "getset_descriptor.__get__")))
    (h427 : PySem.W.takesIn K (.builtin "object.__class__") = some true)
    (h428 : PySem.W.mroIn K z_NameTaken (.type "object") = some true)
    (h429 : PySem.W.findIn K (.ref z_NameTaken) "name" = some none)
    (h430 : K.lookup z_InUse = some (excClassObj nm97 qn97 z_InUse nn97 bs97 bm97 true sn97 sb97 ab97 co97 dd97 k097 k197 k297 k397 k597 "ValueError.__new__"))
    (h431 : refsT tlV bm97 = true)
    (h432 : PySem.W.findIn K (.ref z_InUse) "__setattr__" = some (some (.builtin "object.__setattr__")))
    (h433 : PySem.W.subIn K (.ref z_InUse) (.type "BaseException") = some true)
    (h434 : PySem.W.typeIn K (.ref z_InUse) = some (.type "type"))
    (h435 : PySem.W.keepIn K (.ref z_InUse) = true)
    (h436 : xfB K z_InUse = true)
    (h437 : PySem.W.findIn K (.ref z_InUse) "__init__" = some (some (.ref f97)))
    (h438 : PySem.W.typeIn K (.ref f97) = some (.type "function"))
    (h439 : K.lookup f97 = some ⟨oc97, od97, .func (PySem.W.fnOf "__init__" "InUse.__init__" (defArgs s_InUse___init) (defBody s_InUse___init) (defScope s_InUse___init) .none kV97 dc97 pm97 an97 cd97 ct97), sl97⟩)
    (h440 : PySem.W.codeIn K cd97 "InUse.__init__" = true)
    (h441 : PySem.W.keepIn K (.ref f97) = true)
    (h442 : PySem.W.findIn K (.ref z_InUse) "__class__" = some (some (.builtin "object.__class__")))
    (h443 : PySem.W.specialIn K (.builtin "object.__class__") "__get__" = some (some (.builtin "getset_descriptor.__get__")))
    (h444 : PySem.W.takesIn K (.builtin "object.__class__") = some true)
    (h445 : PySem.W.mroIn K z_InUse (.type "object") = some true)
    (h446 : PySem.W.findIn K (.ref z_InUse) "name" = some none)
    (h447 : K.lookup z_UnknownName = some (excClassObj nm99 qn99 z_UnknownName nn99 bs99 bm99 true sn99 sb99 ab99 co99 dd99 k099 k199 k299 k399 k599 "LookupError.__new__"))
    (h448 : refsT tlL bm99 = true)
    (h449 : PySem.W.findIn K (.ref z_UnknownName) "__setattr__" = some (some (.builtin "object.__setattr__")))
    (h450 : PySem.W.subIn K (.ref z_UnknownName) (.type "BaseException") = some true)
    (h451 : PySem.W.typeIn K (.ref z_UnknownName) = some (.type "type"))
    (h452 : PySem.W.keepIn K (.ref z_UnknownName) = true)
    (h453 : xfB K z_UnknownName = true)
    (h454 : PySem.W.findIn K (.ref z_UnknownName) "__init__" = some (some (.ref f99)))
    (h455 : PySem.W.typeIn K (.ref f99) = some (.type "function"))
    (h456 : K.lookup f99 = some ⟨oc99, od99, .func (PySem.W.fnOf "__init__" "UnknownName.__init__" (defArgs s_UnknownName___init) (defBody s_UnknownName___init) (defScope s_UnknownName___init) .none kV99 dc99 pm99 an99 cd99 ct99), sl99⟩)
    (h457 : PySem.W.codeIn K cd99 "UnknownName.__init__" = true)
    (h458 : PySem.W.keepIn K (.ref f99) = true)
    (h459 : PySem.W.findIn K (.ref z_UnknownName) "__class__" = some (some (.builtin "object.__class__")))
    (h460 : PySem.W.specialIn K (.builtin "object.__class__") "__get__" = some (some (.builtin "getset_descriptor.__get__")))
    (h461 : PySem.W.takesIn K (.builtin "object.__class__") = some true)
    (h462 : PySem.W.mroIn K z_UnknownName (.type "object") = some true)
    (h463 : PySem.W.findIn K (.ref z_UnknownName) "name" = some none)
    (h464 : K.lookup z_UnknownEye = some (excClassObj nm101 qn101 z_UnknownEye nn101 bs101 bm101 true sn101 sb101 ab101 co101 dd101 k0101 k1101 k2101 k3101 k5101 "LookupError.__new__"))
    (h465 : refsT tlL bm101 = true)
    (h466 : PySem.W.findIn K (.ref z_UnknownEye) "__setattr__" = some (some (.builtin "object.__setattr__")))
    (h467 : PySem.W.subIn K (.ref z_UnknownEye) (.type "BaseException") = some true)
    (h468 : PySem.W.typeIn K (.ref z_UnknownEye) = some (.type "type"))
    (h469 : PySem.W.keepIn K (.ref z_UnknownEye) = true)
    (h470 : xfB K z_UnknownEye = true)
    (h471 : PySem.W.findIn K (.ref z_UnknownEye) "__init__" = some (some (.ref f101)))
    (h472 : PySem.W.typeIn K (.ref f101) = some (.type "function"))
    (h473 : K.lookup f101 = some ⟨oc101, od101, .func (PySem.W.fnOf "__init__" "UnknownEye.__init__" (defArgs s_UnknownEye___init) (defBody s_UnknownEye___init) (defScope s_UnknownEye___init) .none kV101 dc101 pm101 an101 cd101 ct101), sl101⟩)
    (h474 : PySem.W.codeIn K cd101 "UnknownEye.__init__" = true)
    (h475 : PySem.W.keepIn K (.ref f101) = true)
    (h476 : PySem.W.findIn K (.ref z_UnknownEye) "__class__" = some (some (.builtin "object.__class__")))
    (h477 : PySem.W.specialIn K (.builtin "object.__class__") "__get__" = some (some (.builtin "getset_descriptor.__get__")))
    (h478 : PySem.W.takesIn K (.builtin "object.__class__") = some true)
    (h479 : PySem.W.mroIn K z_UnknownEye (.type "object") = some true)
    (h480 : PySem.W.findIn K (.ref z_UnknownEye) "name" = some none)
    (h481 : K.lookup z_UnknownGrant = some (excClassObj nm103 qn103 z_UnknownGrant nn103 bs103 bm103 true sn103 sb103 ab103 co103 dd103 k0103 k1103 k2103 k3103 k5103 "LookupError.__new__"))
    (h482 : refsT tlL bm103 = true)
    (h483 : PySem.W.findIn K (.ref z_UnknownGrant) "__setattr__" = some (some (.builtin "object.__setattr__")))
    (h484 : PySem.W.subIn K (.ref z_UnknownGrant) (.type "BaseException") = some true)
    (h485 : PySem.W.typeIn K (.ref z_UnknownGrant) = some (.type "type"))
    (h486 : PySem.W.keepIn K (.ref z_UnknownGrant) = true)
    (h487 : xfB K z_UnknownGrant = true)
    (h488 : PySem.W.findIn K (.ref z_UnknownGrant) "__init__" = some (some (.ref f103)))
    (h489 : PySem.W.typeIn K (.ref f103) = some (.type "function"))
    (h490 : K.lookup f103 = some ⟨oc103, od103, .func (PySem.W.fnOf "__init__" "UnknownGrant.__init__" (defArgs s_UnknownGrant___init) (defBody s_UnknownGrant___init) (defScope s_UnknownGrant___init) .none kV103 dc103 pm103 an103 cd103 ct103), sl103⟩)
    (h491 : PySem.W.codeIn K cd103 "UnknownGrant.__init__" = true)
    (h492 : PySem.W.keepIn K (.ref f103) = true)
    (h493 : PySem.W.findIn K (.ref z_UnknownGrant) "__class__" = some (some (.builtin "object.__class__")))
    (h494 : PySem.W.specialIn K (.builtin "object.__class__") "__get__" = some (some (.builtin "getset_descriptor.__get__")))
    (h495 : PySem.W.takesIn K (.builtin "object.__class__") = some true)
    (h496 : PySem.W.mroIn K z_UnknownGrant (.type "object") = some true)
    (h497 : PySem.W.findIn K (.ref z_UnknownGrant) "at" = some none)
    (h498 : K.lookup z_UnknownBan = some (excClassObj nm105 qn105 z_UnknownBan nn105 bs105 bm105 true sn105 sb105 ab105 co105 dd105 k0105 k1105 k2105 k3105 k5105 "LookupError.__new__"))
    (h499 : refsT tlL bm105 = true)
    (h500 : PySem.W.findIn K (.ref z_UnknownBan) "__setattr__" = some (some (.builtin "object.__setattr__")))
    (h501 : PySem.W.subIn K (.ref z_UnknownBan) (.type "BaseException") = some true)
    (h502 : PySem.W.typeIn K (.ref z_UnknownBan) = some (.type "type"))
    (h503 : PySem.W.keepIn K (.ref z_UnknownBan) = true)
    (h504 : xfB K z_UnknownBan = true)
    (h505 : PySem.W.findIn K (.ref z_UnknownBan) "__init__" = some (some (.ref f105)))
    (h506 : PySem.W.typeIn K (.ref f105) = some (.type "function"))
    (h507 : K.lookup f105 = some ⟨oc105, od105, .func (PySem.W.fnOf "__init__" "UnknownBan.__init__" (defArgs s_UnknownBan___init) (defBody s_UnknownBan___init) (defScope s_UnknownBan___init) .none kV105 dc105 pm105 an105 cd105 ct105), sl105⟩)
    (h508 : PySem.W.codeIn K cd105 "UnknownBan.__init__" = true)
    (h509 : PySem.W.keepIn K (.ref f105) = true)
    (h510 : PySem.W.findIn K (.ref z_UnknownBan) "__class__" = some (some (.builtin "object.__class__")))
    (h511 : PySem.W.specialIn K (.builtin "object.__class__") "__get__" = some (some (.builtin "getset_descriptor.__get__")))
    (h512 : PySem.W.takesIn K (.builtin "object.__class__") = some true)
    (h513 : PySem.W.mroIn K z_UnknownBan (.type "object") = some true)
    (h514 : PySem.W.findIn K (.ref z_UnknownBan) "at" = some none)
    (h515 : K.lookup z_UnknownShare = some (excClassObj nm107 qn107 z_UnknownShare nn107 bs107 bm107 true sn107 sb107 ab107 co107 dd107 k0107 k1107 k2107 k3107 k5107 "LookupError.__new__"))
    (h516 : refsT tlL bm107 = true)
    (h517 : PySem.W.findIn K (.ref z_UnknownShare) "__setattr__" = some (some (.builtin "object.__setattr__")))
    (h518 : PySem.W.subIn K (.ref z_UnknownShare) (.type "BaseException") = some true)
    (h519 : PySem.W.typeIn K (.ref z_UnknownShare) = some (.type "type"))
    (h520 : PySem.W.keepIn K (.ref z_UnknownShare) = true)
    (h521 : xfB K z_UnknownShare = true)
    (h522 : PySem.W.findIn K (.ref z_UnknownShare) "__init__" = some (some (.ref f107)))
    (h523 : PySem.W.typeIn K (.ref f107) = some (.type "function"))
    (h524 : K.lookup f107 = some ⟨oc107, od107, .func (PySem.W.fnOf "__init__" "UnknownShare.__init__" (defArgs s_UnknownShare___init) (defBody s_UnknownShare___init) (defScope s_UnknownShare___init) .none kV107 dc107 pm107 an107 cd107 ct107), sl107⟩)
    (h525 : PySem.W.codeIn K cd107 "UnknownShare.__init__" = true)
    (h526 : PySem.W.keepIn K (.ref f107) = true)
    (h527 : PySem.W.findIn K (.ref z_UnknownShare) "__class__" = some (some (.builtin "object.__class__")))
    (h528 : PySem.W.specialIn K (.builtin "object.__class__") "__get__" = some (some (.builtin "getset_descriptor.__get__")))
    (h529 : PySem.W.takesIn K (.builtin "object.__class__") = some true)
    (h530 : PySem.W.mroIn K z_UnknownShare (.type "object") = some true)
    (h531 : PySem.W.findIn K (.ref z_UnknownShare) "at" = some none)
    (h532 : K.lookup z_UnknownSaying = some (excClassObj nm109 qn109 z_UnknownSaying nn109 bs109 bm109 true sn109 sb109 ab109 co109 dd109 k0109 k1109 k2109 k3109 k5109 "LookupError.__new__"))
    (h533 : refsT tlL bm109 = true)
    (h534 : PySem.W.findIn K (.ref z_UnknownSaying) "__setattr__" = some (some (.builtin "object.__setattr__")))
    (h535 : PySem.W.subIn K (.ref z_UnknownSaying) (.type "BaseException") = some true)
    (h536 : PySem.W.typeIn K (.ref z_UnknownSaying) = some (.type "type"))
    (h537 : PySem.W.keepIn K (.ref z_UnknownSaying) = true)
    (h538 : xfB K z_UnknownSaying = true)
    (h539 : PySem.W.findIn K (.ref z_UnknownSaying) "__init__" = some (some (.ref f109)))
    (h540 : PySem.W.typeIn K (.ref f109) = some (.type "function"))
    (h541 : K.lookup f109 = some ⟨oc109, od109, .func (PySem.W.fnOf "__init__" "UnknownSaying.__init__" (defArgs s_UnknownSaying___init) (defBody s_UnknownSaying___init) (defScope s_UnknownSaying___init) .none kV109 dc109 pm109 an109 cd109 ct109), sl109⟩)
    (h542 : PySem.W.codeIn K cd109 "UnknownSaying.__init__" = true)
    (h543 : PySem.W.keepIn K (.ref f109) = true)
    (h544 : PySem.W.findIn K (.ref z_UnknownSaying) "__class__" = some (some (.builtin "object.__class__")))
    (h545 : PySem.W.specialIn K (.builtin "object.__class__") "__get__" = some (some (.builtin "getset_descriptor.__get__")))
    (h546 : PySem.W.takesIn K (.builtin "object.__class__") = some true)
    (h547 : PySem.W.mroIn K z_UnknownSaying (.type "object") = some true)
    (h548 : PySem.W.findIn K (.ref z_UnknownSaying) "at" = some none)
    (h549 : PySem.W.excIn K z_NothingLeft tlI "IndexError.__new__" = true)
    (h550 : PySem.W.subIn K (.ref z_NothingLeft) (.type "BaseException") = some true)
    (h551 : PySem.W.typeIn K (.ref z_NothingLeft) = some (.type "type"))
    (h552 : PySem.W.keepIn K (.ref z_NothingLeft) = true)
    (h553 : xfB K z_NothingLeft = true)
    (h554 : PySem.W.findIn K (.ref z_NothingLeft) "__class__" = some (some (.builtin "object.__class__")))
    (h555 : PySem.W.specialIn K (.builtin "object.__class__") "__get__" = some (some (.builtin "getset_descriptor.__get__")))
    (h556 : PySem.W.takesIn K (.builtin "object.__class__") = some true)
    (h557 : PySem.W.mroIn K z_NothingLeft (.type "object") = some true)
    (h558 : ktabB K ⟨0, z_PooledError, z_Missing, z_InvalidName, z_InvalidNumber, z_InvalidText, z_InvalidCircle, z_InvalidTie, z_InvalidParting, z_InvalidCase, z_InvalidGrant, z_InvalidBan, z_InvalidShare, z_InvalidSaying, z_InvalidLog, z_InvalidLot, z_InvalidEyes, z_InvalidDeed, z_InvalidQuestion, z_TooMany, z_NotAlike, z_CommonShown, z_NotPooled, z_UnlikeSketches, z_NotSafe, z_CannotStand, z_NameTaken, z_InUse, z_UnknownName, z_UnknownEye, z_UnknownGrant, z_UnknownBan, z_UnknownShare, z_UnknownSaying, z_NothingLeft⟩ = true)
    (h559 : kbasB K ⟨0, z_PooledError, z_Missing, z_InvalidName, z_InvalidNumber, z_InvalidText, z_InvalidCircle, z_InvalidTie, z_InvalidParting, z_InvalidCase, z_InvalidGrant, z_InvalidBan, z_InvalidShare, z_InvalidSaying, z_InvalidLog, z_InvalidLot, z_InvalidEyes, z_InvalidDeed, z_InvalidQuestion, z_TooMany, z_NotAlike, z_CommonShown, z_NotPooled, z_UnlikeSketches, z_NotSafe, z_CannotStand, z_NameTaken, z_InUse, z_UnknownName, z_UnknownEye, z_UnknownGrant, z_UnknownBan, z_UnknownShare, z_UnknownSaying, z_NothingLeft⟩ = true)
    (h560 : kexmB K ⟨0, z_PooledError, z_Missing, z_InvalidName, z_InvalidNumber, z_InvalidText, z_InvalidCircle, z_InvalidTie, z_InvalidParting, z_InvalidCase, z_InvalidGrant, z_InvalidBan, z_InvalidShare, z_InvalidSaying, z_InvalidLog, z_InvalidLot, z_InvalidEyes, z_InvalidDeed, z_InvalidQuestion, z_TooMany, z_NotAlike, z_CommonShown, z_NotPooled, z_UnlikeSketches, z_NotSafe, z_CannotStand, z_NameTaken, z_InUse, z_UnknownName, z_UnknownEye, z_UnknownGrant, z_UnknownBan, z_UnknownShare, z_UnknownSaying, z_NothingLeft⟩ = true)
    (h561 : PySem.W.nsIn K mainGlobals "TooMany" = some (some (.ref z_TooMany)))
    (h562 : K.lookup z_TooMany = some (excClassObj nm115 qn115 z_TooMany nn115 bs115 bm115 true sn115 sb115 ab115 co115 dd115 k0115 k1115 k2115 k3115 k5115 "ValueError.__new__"))
    (h563 : PySem.HandSPX.refsVE bm115 = true)
    (h564 : PySem.W.findIn K (.ref z_TooMany) "__setattr__" = some (some (.builtin "object.__setattr__")))
    (h565 : PySem.W.subIn K (.ref z_TooMany) (.type "BaseException") = some true)
    (h566 : PySem.W.typeIn K (.ref z_TooMany) = some (.type "type"))
    (h567 : PySem.W.keepIn K (.ref z_TooMany) = true)
    (h568 : xfB K z_TooMany = true)
    (h569 : PySem.W.findIn K (.ref z_TooMany) "__init__" = some (some (.ref f115)))
    (h570 : PySem.W.typeIn K (.ref f115) = some (.type "function"))
    (h571 : K.lookup f115 = some ⟨oc115, od115, .func (PySem.W.fnOf "__init__" "TooMany.__init__" (defArgs s_TooMany___init) (defBody s_TooMany___init) (defScope s_TooMany___init) .none kV115 dc115 pm115 an115 cd115 ct115), sl115⟩)
    (h572 : PySem.W.codeIn K cd115 "TooMany.__init__" = true)
    (h573 : PySem.W.keepIn K (.ref f115) = true)
    (h574 : PySem.W.nsIn K mainGlobals "NotAlike" = some (some (.ref z_NotAlike)))
    (h575 : K.lookup z_NotAlike = some (excClassObj nm116 qn116 z_NotAlike nn116 bs116 bm116 true sn116 sb116 ab116 co116 dd116 k0116 k1116 k2116 k3116 k5116 "ValueError.__new__"))
    (h576 : PySem.HandSPX.refsVE bm116 = true)
    (h577 : PySem.W.findIn K (.ref z_NotAlike) "__setattr__" = some (some (.builtin "object.__setattr__")))
    (h578 : PySem.W.subIn K (.ref z_NotAlike) (.type "BaseException") = some true)
    (h579 : PySem.W.typeIn K (.ref z_NotAlike) = some (.type "type"))
    (h580 : PySem.W.keepIn K (.ref z_NotAlike) = true)
    (h581 : xfB K z_NotAlike = true)
    (h582 : PySem.W.findIn K (.ref z_NotAlike) "__init__" = some (some (.ref f116)))
    (h583 : PySem.W.typeIn K (.ref f116) = some (.type "function"))
    (h584 : K.lookup f116 = some ⟨oc116, od116, .func (PySem.W.fnOf "__init__" "NotAlike.__init__" (defArgs s_NotAlike___init) (defBody s_NotAlike___init) (defScope s_NotAlike___init) .none kV116 dc116 pm116 an116 cd116 ct116), sl116⟩)
    (h585 : PySem.W.codeIn K cd116 "NotAlike.__init__" = true)
    (h586 : PySem.W.keepIn K (.ref f116) = true)
    (h587 : PySem.W.nsIn K mainGlobals "_law_bag" = some (some (.ref f117)))
    (h588 : K.lookup f117 = some ⟨oc117, od117, .func (PySem.W.fnOf "_law_bag" "_law_bag" (defArgs s_law_bag) (defBody s_law_bag) (defScope s_law_bag) .none kV117 dc117 pm117 an117 cd117 ct117), sl117⟩)
    (h589 : PySem.W.codeIn K cd117 "_law_bag" = true)
    (h590 : PySem.W.keepIn K (.ref f117) = true)
    (h591 : PySem.W.nsIn K mainGlobals "_law_draw" = some (some (.ref f118)))
    (h592 : K.lookup f118 = some ⟨oc118, od118, .func (PySem.W.fnOf "_law_draw" "_law_draw" (defArgs s_law_draw) (defBody s_law_draw) (defScope s_law_draw) .none kV118 dc118 pm118 an118 cd118 ct118), sl118⟩)
    (h593 : PySem.W.codeIn K cd118 "_law_draw" = true)
    (h594 : PySem.W.keepIn K (.ref f118) = true)
    (h595 : PySem.W.nsIn K mainGlobals "_law_of" = some (some (.ref f119)))
    (h596 : K.lookup f119 = some ⟨oc119, od119, .func (PySem.W.fnOf "_law_of" "_law_of" (defArgs s_law_of) (defBody s_law_of) (defScope s_law_of) .none kV119 dc119 pm119 an119 cd119 ct119), sl119⟩)
    (h597 : PySem.W.codeIn K cd119 "_law_of" = true)
    (h598 : PySem.W.keepIn K (.ref f119) = true)
    (h599 : PySem.W.nsIn K mainGlobals "_law_same" = some (some (.ref f120)))
    (h600 : K.lookup f120 = some ⟨oc120, od120, .func (PySem.W.fnOf "_law_same" "_law_same" (defArgs s_law_same) (defBody s_law_same) (defScope s_law_same) .none kV120 dc120 pm120 an120 cd120 ct120), sl120⟩)
    (h601 : PySem.W.codeIn K cd120 "_law_same" = true)
    (h602 : PySem.W.keepIn K (.ref f120) = true)
    (h603 : PySem.W.nsIn K mainGlobals "_law_first_kinds" = some (some (.ref f121)))
    (h604 : K.lookup f121 = some ⟨oc121, od121, .func (PySem.W.fnOf "_law_first_kinds" "_law_first_kinds" (defArgs s_law_first_kinds) (defBody s_law_first_kinds) (defScope s_law_first_kinds) .none kV121 dc121 pm121 an121 cd121 ct121), sl121⟩)
    (h605 : PySem.W.codeIn K cd121 "_law_first_kinds" = true)
    (h606 : PySem.W.keepIn K (.ref f121) = true)
    (h607 : PySem.W.nsIn K mainGlobals "_law_last_kinds" = some (some (.ref f122)))
    (h608 : K.lookup f122 = some ⟨oc122, od122, .func (PySem.W.fnOf "_law_last_kinds" "_law_last_kinds" (defArgs s_law_last_kinds) (defBody s_law_last_kinds) (defScope s_law_last_kinds) .none kV122 dc122 pm122 an122 cd122 ct122), sl122⟩)
    (h609 : PySem.W.codeIn K cd122 "_law_last_kinds" = true)
    (h610 : PySem.W.keepIn K (.ref f122) = true)
    (h611 : PySem.W.nsIn K mainGlobals "_law_by_place" = some (some (.ref f123)))
    (h612 : K.lookup f123 = some ⟨oc123, od123, .func (PySem.W.fnOf "_law_by_place" "_law_by_place" (defArgs s_law_by_place) (defBody s_law_by_place) (defScope s_law_by_place) .none kV123 dc123 pm123 an123 cd123 ct123), sl123⟩)
    (h613 : PySem.W.codeIn K cd123 "_law_by_place" = true)
    (h614 : PySem.W.keepIn K (.ref f123) = true)
    (h615 : PySem.W.nsIn K mainGlobals "_law_by_name" = some (some (.ref f124)))
    (h616 : K.lookup f124 = some ⟨oc124, od124, .func (PySem.W.fnOf "_law_by_name" "_law_by_name" (defArgs s_law_by_name) (defBody s_law_by_name) (defScope s_law_by_name) .none kV124 dc124 pm124 an124 cd124 ct124), sl124⟩)
    (h617 : PySem.W.codeIn K cd124 "_law_by_name" = true)
    (h618 : PySem.W.keepIn K (.ref f124) = true)
    (h619 : PySem.W.nsIn K mainGlobals "_law_fields" = some (some (.ref f125)))
    (h620 : K.lookup f125 = some ⟨oc125, od125, .func (PySem.W.fnOf "_law_fields" "_law_fields" (defArgs s_law_fields) (defBody s_law_fields) (defScope s_law_fields) .none kV125 dc125 pm125 an125 cd125 ct125), sl125⟩)
    (h621 : PySem.W.codeIn K cd125 "_law_fields" = true)
    (h622 : PySem.W.keepIn K (.ref f125) = true)
    (h623 : PySem.W.nsIn K mainGlobals "_law_fields_due" = some (some (.ref f126)))
    (h624 : K.lookup f126 = some ⟨oc126, od126, .func (PySem.W.fnOf "_law_fields_due" "_law_fields_due" (defArgs s_law_fields_due) (defBody s_law_fields_due) (defScope s_law_fields_due) .none kV126 dc126 pm126 an126 cd126 ct126), sl126⟩)
    (h625 : PySem.W.codeIn K cd126 "_law_fields_due" = true)
    (h626 : PySem.W.keepIn K (.ref f126) = true)
    (h627 : PySem.W.nsIn K mainGlobals "_law_raise" = some (some (.ref f127)))
    (h628 : K.lookup f127 = some ⟨oc127, od127, .func (PySem.W.fnOf "_law_raise" "_law_raise" (defArgs s_law_raise) (defBody s_law_raise) (defScope s_law_raise) .none kV127 dc127 pm127 an127 cd127 ct127), sl127⟩)
    (h629 : PySem.W.codeIn K cd127 "_law_raise" = true)
    (h630 : PySem.W.keepIn K (.ref f127) = true)
    (h631 : PySem.W.nsIn K mainGlobals "_law_caught" = some (some (.ref f128)))
    (h632 : K.lookup f128 = some ⟨oc128, od128, .func (PySem.W.fnOf "_law_caught" "_law_caught" (defArgs s_law_caught) (defBody s_law_caught) (defScope s_law_caught) .none kV128 dc128 pm128 an128 cd128 ct128), sl128⟩)
    (h633 : PySem.W.codeIn K cd128 "_law_caught" = true)
    (h634 : PySem.W.keepIn K (.ref f128) = true)
    (h635 : PySem.W.nsIn K mainGlobals "_law_caught_itself" = some (some (.ref f129)))
    (h636 : K.lookup f129 = some ⟨oc129, od129, .func (PySem.W.fnOf "_law_caught_itself" "_law_caught_itself" (defArgs s_law_caught_itself) (defBody s_law_caught_itself) (defScope s_law_caught_itself) .none kV129 dc129 pm129 an129 cd129 ct129), sl129⟩)
    (h637 : PySem.W.codeIn K cd129 "_law_caught_itself" = true)
    (h638 : PySem.W.keepIn K (.ref f129) = true)
    (h639 : PySem.W.nsIn K mainGlobals "_law_thing" = some (some (.ref f130)))
    (h640 : K.lookup f130 = some ⟨oc130, od130, .func (PySem.W.fnOf "_law_thing" "_law_thing" (defArgs s_law_thing) (defBody s_law_thing) (defScope s_law_thing) .none kV130 dc130 pm130 an130 cd130 ct130), sl130⟩)
    (h641 : PySem.W.codeIn K cd130 "_law_thing" = true)
    (h642 : PySem.W.keepIn K (.ref f130) = true)
    (h643 : PySem.W.nsIn K mainGlobals "_law_made_so" = some (some (.ref f131)))
    (h644 : K.lookup f131 = some ⟨oc131, od131, .func (PySem.W.fnOf "_law_made_so" "_law_made_so" (defArgs s_law_made_so) (defBody s_law_made_so) (defScope s_law_made_so) .none kV131 dc131 pm131 an131 cd131 ct131), sl131⟩)
    (h645 : PySem.W.codeIn K cd131 "_law_made_so" = true)
    (h646 : PySem.W.keepIn K (.ref f131) = true)
    (h647 : PySem.W.nsIn K mainGlobals "law" = some (some (.ref f132)))
    (h648 : K.lookup f132 = some ⟨oc132, od132, .func (PySem.W.fnOf "law" "law" (defArgs s_law) (defBody s_law) (defScope s_law) .none kV132 dc132 pm132 an132 cd132 ct132), sl132⟩)
    (h649 : PySem.W.codeIn K cd132 "law" = true)
    (h650 : PySem.W.keepIn K (.ref f132) = true) :
    ∃ A : Adr, Txt K mg A := ⟨⟨0, z_PooledError, z_Missing, z_InvalidName, z_InvalidNumber, z_InvalidText, z_InvalidCircle, z_InvalidTie, z_InvalidParting, z_InvalidCase, z_InvalidGrant, z_InvalidBan, z_InvalidShare, z_InvalidSaying, z_InvalidLog, z_InvalidLot, z_InvalidEyes, z_InvalidDeed, z_InvalidQuestion, z_TooMany, z_NotAlike, z_CommonShown, z_NotPooled, z_UnlikeSketches, z_NotSafe, z_CannotStand, z_NameTaken, z_InUse, z_UnknownName, z_UnknownEye, z_UnknownGrant, z_UnknownBan, z_UnknownShare, z_UnknownSaying, z_NothingLeft⟩, {n_int := PySem.W.mg_none_of X G h1, n_list := PySem.W.mg_none_of X G h2, n_len := PySem.W.mg_none_of X G h3, n_abs := PySem.W.mg_none_of X G h4, n_isinstance := PySem.W.mg_none_of X G h5, n_tuple := PySem.W.mg_none_of X G h6, n_all := PySem.W.mg_none_of X G h7, n_zip := PySem.W.mg_none_of X G h8, n_dict := PySem.W.mg_none_of X G h9, n_bool := PySem.W.mg_none_of X G h10, n_str := PySem.W.mg_none_of X G h11, n_range := PySem.W.mg_none_of X G h12, n_ValueError := PySem.W.mg_none_of X G h13, n_LookupError := PySem.W.mg_none_of X G h14, n_IndexError := PySem.W.mg_none_of X G h15, n_KeyError := PySem.W.mg_none_of X G h16, n_Exception := PySem.W.mg_none_of X G h17, m_PooledError := PySem.W.mg_of X G h18, m_Missing := PySem.W.mg_of X G h19, m_InvalidName := PySem.W.mg_of X G h20, m_InvalidNumber := PySem.W.mg_of X G h21, m_InvalidText := PySem.W.mg_of X G h22, m_InvalidCircle := PySem.W.mg_of X G h23, m_InvalidTie := PySem.W.mg_of X G h24, m_InvalidParting := PySem.W.mg_of X G h25, m_InvalidCase := PySem.W.mg_of X G h26, m_InvalidGrant := PySem.W.mg_of X G h27, m_InvalidBan := PySem.W.mg_of X G h28, m_InvalidShare := PySem.W.mg_of X G h29, m_InvalidSaying := PySem.W.mg_of X G h30, m_InvalidLog := PySem.W.mg_of X G h31, m_InvalidLot := PySem.W.mg_of X G h32, m_InvalidEyes := PySem.W.mg_of X G h33, m_InvalidDeed := PySem.W.mg_of X G h34, m_InvalidQuestion := PySem.W.mg_of X G h35, m_TooMany := PySem.W.mg_of X G h36, m_NotAlike := PySem.W.mg_of X G h37, m_CommonShown := PySem.W.mg_of X G h38, m_NotPooled := PySem.W.mg_of X G h39, m_UnlikeSketches := PySem.W.mg_of X G h40, m_NotSafe := PySem.W.mg_of X G h41, m_CannotStand := PySem.W.mg_of X G h42, m_NameTaken := PySem.W.mg_of X G h43, m_InUse := PySem.W.mg_of X G h44, m_UnknownName := PySem.W.mg_of X G h45, m_UnknownEye := PySem.W.mg_of X G h46, m_UnknownGrant := PySem.W.mg_of X G h47, m_UnknownBan := PySem.W.mg_of X G h48, m_UnknownShare := PySem.W.mg_of X G h49, m_UnknownSaying := PySem.W.mg_of X G h50, m_NothingLeft := PySem.W.mg_of X G h51, t_InvalidName := errT_mk h52 h53 h54 h55 h56 h57 h58 h59 h60 h61 h62 h63 h64 h65 h66 h67 (fun _ _ _ _ _ _ us hl => match us, hl with | [_, _], _ => rfl), a_InvalidName_value := h68, t_InvalidNumber := errT_mk h69 h70 h71 h72 h73 h74 h75 h76 h77 h78 h79 h80 h81 h82 h83 h84 (fun _ _ _ _ _ _ us hl => match us, hl with | [_, _], _ => rfl), a_InvalidNumber_value := h85, t_InvalidText := errT_mk h86 h87 h88 h89 h90 h91 h92 h93 h94 h95 h96 h97 h98 h99 h100 h101 (fun _ _ _ _ _ _ us hl => match us, hl with | [_, _], _ => rfl), a_InvalidText_at := h102, t_InvalidCircle := errT_mk h103 h104 h105 h106 h107 h108 h109 h110 h111 h112 h113 h114 h115 h116 h117 h118 (fun _ _ _ _ _ _ us hl => match us, hl with | [_, _], _ => rfl), a_InvalidCircle_at := h119, t_InvalidTie := errT_mk h120 h121 h122 h123 h124 h125 h126 h127 h128 h129 h130 h131 h132 h133 h134 h135 (fun _ _ _ _ _ _ us hl => match us, hl with | [_, _], _ => rfl), a_InvalidTie_at := h136, t_InvalidParting := errT_mk h137 h138 h139 h140 h141 h142 h143 h144 h145 h146 h147 h148 h149 h150 h151 h152 (fun _ _ _ _ _ _ us hl => match us, hl with | [_, _], _ => rfl), a_InvalidParting_value := h153, t_InvalidCase := errT_mk h154 h155 h156 h157 h158 h159 h160 h161 h162 h163 h164 h165 h166 h167 h168 h169 (fun _ _ _ _ _ _ us hl => match us, hl with | [_, _], _ => rfl), a_InvalidCase_value := h170, t_InvalidGrant := errT_mk h171 h172 h173 h174 h175 h176 h177 h178 h179 h180 h181 h182 h183 h184 h185 h186 (fun _ _ _ _ _ _ us hl => match us, hl with | [_, _], _ => rfl), a_InvalidGrant_at := h187, t_InvalidBan := errT_mk h188 h189 h190 h191 h192 h193 h194 h195 h196 h197 h198 h199 h200 h201 h202 h203 (fun _ _ _ _ _ _ us hl => match us, hl with | [_, _], _ => rfl), a_InvalidBan_at := h204, t_InvalidShare := errT_mk h205 h206 h207 h208 h209 h210 h211 h212 h213 h214 h215 h216 h217 h218 h219 h220 (fun _ _ _ _ _ _ us hl => match us, hl with | [_, _], _ => rfl), a_InvalidShare_at := h221, t_InvalidSaying := errT_mk h222 h223 h224 h225 h226 h227 h228 h229 h230 h231 h232 h233 h234 h235 h236 h237 (fun _ _ _ _ _ _ us hl => match us, hl with | [_, _], _ => rfl), a_InvalidSaying_at := h238, t_InvalidLog := errT_mk h239 h240 h241 h242 h243 h244 h245 h246 h247 h248 h249 h250 h251 h252 h253 h254 (fun _ _ _ _ _ _ us hl => match us, hl with | [_, _], _ => rfl), a_InvalidLog_at := h255, t_InvalidLot := errT_mk h256 h257 h258 h259 h260 h261 h262 h263 h264 h265 h266 h267 h268 h269 h270 h271 (fun _ _ _ _ _ _ us hl => match us, hl with | [_, _], _ => rfl), a_InvalidLot_at := h272, z_InvalidEyes := errN_mk h273 h274 h275 h276 h277 h278 h279 h280 h281, t_InvalidDeed := errT_mk h282 h283 h284 h285 h286 h287 h288 h289 h290 h291 h292 h293 h294 h295 h296 h297 (fun _ _ _ _ _ _ us hl => match us, hl with | [_, _], _ => rfl), a_InvalidDeed_at := h298, z_InvalidQuestion := errN_mk h299 h300 h301 h302 h303 h304 h305 h306 h307, t_TooMany := errT_mk h308 h309 h310 h311 h312 h313 h314 h315 h316 h317 h318 h319 h320 h321 h322 h323 (fun _ _ _ _ _ _ us hl => match us, hl with | [_, _, _], _ => rfl), a_TooMany_what := h324, a_TooMany_most := h325, t_NotAlike := errT_mk h326 h327 h328 h329 h330 h331 h332 h333 h334 h335 h336 h337 h338 h339 h340 h341 (fun _ _ _ _ _ _ us hl => match us, hl with | [_, _, _], _ => rfl), a_NotAlike_one := h342, a_NotAlike_other := h343, t_CommonShown := errT_mk h344 h345 h346 h347 h348 h349 h350 h351 h352 h353 h354 h355 h356 h357 h358 h359 (fun _ _ _ _ _ _ us hl => match us, hl with | [_, _], _ => rfl), a_CommonShown_at := h360, z_NotPooled := errN_mk h361 h362 h363 h364 h365 h366 h367 h368 h369, z_UnlikeSketches := errN_mk h370 h371 h372 h373 h374 h375 h376 h377 h378, t_NotSafe := errT_mk h379 h380 h381 h382 h383 h384 h385 h386 h387 h388 h389 h390 h391 h392 h393 h394 (fun _ _ _ _ _ _ us hl => match us, hl with | [_, _], _ => rfl), a_NotSafe_at := h395, t_CannotStand := errT_mk h396 h397 h398 h399 h400 h401 h402 h403 h404 h405 h406 h407 h408 h409 h410 h411 (fun _ _ _ _ _ _ us hl => match us, hl with | [_, _], _ => rfl), a_CannotStand_at := h412, t_NameTaken := errT_mk h413 h414 h415 h416 h417 h418 h419 h420 h421 h422 h423 h424 h425 h426 h427 h428 (fun _ _ _ _ _ _ us hl => match us, hl with | [_, _], _ => rfl), a_NameTaken_name := h429, t_InUse := errT_mk h430 h431 h432 h433 h434 h435 h436 h437 h438 h439 h440 h441 h442 h443 h444 h445 (fun _ _ _ _ _ _ us hl => match us, hl with | [_, _], _ => rfl), a_InUse_name := h446, t_UnknownName := errT_mk h447 h448 h449 h450 h451 h452 h453 h454 h455 h456 h457 h458 h459 h460 h461 h462 (fun _ _ _ _ _ _ us hl => match us, hl with | [_, _], _ => rfl), a_UnknownName_name := h463, t_UnknownEye := errT_mk h464 h465 h466 h467 h468 h469 h470 h471 h472 h473 h474 h475 h476 h477 h478 h479 (fun _ _ _ _ _ _ us hl => match us, hl with | [_, _], _ => rfl), a_UnknownEye_name := h480, t_UnknownGrant := errT_mk h481 h482 h483 h484 h485 h486 h487 h488 h489 h490 h491 h492 h493 h494 h495 h496 (fun _ _ _ _ _ _ us hl => match us, hl with | [_, _], _ => rfl), a_UnknownGrant_at := h497, t_UnknownBan := errT_mk h498 h499 h500 h501 h502 h503 h504 h505 h506 h507 h508 h509 h510 h511 h512 h513 (fun _ _ _ _ _ _ us hl => match us, hl with | [_, _], _ => rfl), a_UnknownBan_at := h514, t_UnknownShare := errT_mk h515 h516 h517 h518 h519 h520 h521 h522 h523 h524 h525 h526 h527 h528 h529 h530 (fun _ _ _ _ _ _ us hl => match us, hl with | [_, _], _ => rfl), a_UnknownShare_at := h531, t_UnknownSaying := errT_mk h532 h533 h534 h535 h536 h537 h538 h539 h540 h541 h542 h543 h544 h545 h546 h547 (fun _ _ _ _ _ _ us hl => match us, hl with | [_, _], _ => rfl), a_UnknownSaying_at := h548, z_NothingLeft := errN_mk h549 h550 h551 h552 h553 h554 h555 h556 h557, v_ktabB := h558, v_kbasB := h559, v_kexmB := h560, e_TooMany := errAt_mk X G h561 h562 h563 h564 h565 h566 h567 h568 h569 h570 h571 h572 h573 (fun _ _ _ _ _ _ us hl => match us, hl with | [_, _, _], _ => rfl), e_NotAlike := errAt_mk X G h574 h575 h576 h577 h578 h579 h580 h581 h582 h583 h584 h585 h586 (fun _ _ _ _ _ _ us hl => match us, hl with | [_, _, _], _ => rfl), f_law_bag := fnAt_mk X G h587 h588 h589 h590 (fun _ _ _ _ _ _ us hl => match us, hl with | [_], _ => rfl), f_law_draw := fnAt_mk X G h591 h592 h593 h594 (fun _ _ _ _ _ _ us hl => match us, hl with | [_, _], _ => rfl), f_law_of := fnAt_mk X G h595 h596 h597 h598 (fun _ _ _ _ _ _ us hl => match us, hl with | [_, _], _ => rfl), f_law_same := fnAt_mk X G h599 h600 h601 h602 (fun _ _ _ _ _ _ us hl => match us, hl with | [_, _], _ => rfl), f_law_first_kinds := fnAt_mk X G h603 h604 h605 h606 (fun _ _ _ _ _ _ us hl => match us, hl with | [_], _ => rfl), f_law_last_kinds := fnAt_mk X G h607 h608 h609 h610 (fun _ _ _ _ _ _ us hl => match us, hl with | [_], _ => rfl), f_law_by_place := fnAt_mk X G h611 h612 h613 h614 (fun _ _ _ _ _ _ us hl => match us, hl with | [_, _], _ => rfl), f_law_by_name := fnAt_mk X G h615 h616 h617 h618 (fun _ _ _ _ _ _ us hl => match us, hl with | [_, _], _ => rfl), f_law_fields := fnAt_mk X G h619 h620 h621 h622 (fun _ _ _ _ _ _ us hl => match us, hl with | [_, _], _ => rfl), f_law_fields_due := fnAt_mk X G h623 h624 h625 h626 (fun _ _ _ _ _ _ us hl => match us, hl with | [_, _, _], _ => rfl), f_law_raise := fnAt_mk X G h627 h628 h629 h630 (fun _ _ _ _ _ _ us hl => match us, hl with | [_, _, _], _ => rfl), f_law_caught := fnAt_mk X G h631 h632 h633 h634 (fun _ _ _ _ _ _ us hl => match us, hl with | [_, _, _], _ => rfl), f_law_caught_itself := fnAt_mk X G h635 h636 h637 h638 (fun _ _ _ _ _ _ us hl => match us, hl with | [_, _, _], _ => rfl), f_law_thing := fnAt_mk X G h639 h640 h641 h642 (fun _ _ _ _ _ _ us hl => match us, hl with | [_], _ => rfl), f_law_made_so := fnAt_mk X G h643 h644 h645 h646 (fun _ _ _ _ _ _ us hl => match us, hl with | [_, _, _], _ => rfl), f_law := fnAt_mk X G h647 h648 h649 h650 (fun _ _ _ _ _ _ us hl => match us, hl with | [_], _ => rfl) }⟩
theorem fin {l : PySem.W.OpenLaw} {w : World} {K : PySem.W.Frag} {mg : Str → Option Value} {fa : Addr} (T : ∃ A, Txt K mg A) (hmg : mg "law" = some (.ref fa)) :
    ∃ fd : FuncData, (∀ (s : Shared) (v : Value), BindsTo s fd ⟨[v], []⟩ [("_law_script", v)]) ∧ ∀ base : Heap, K.In base → base.Ns mainGlobals mg → FnOk l.prog w K mg base CX0 60 fa fd ["_law_script"] (spLaw K) := by
  obtain ⟨A, T⟩ := T
  obtain ⟨f, fd, F, hb, hm⟩ := T.f_law
  cases hmg.symm.trans hm
  refine ⟨fd, fun s v => ?_, fun base _ _ => ?_⟩
  · obtain ⟨oc, od, kV, doc, pm, an, cdv, ct, osl, rfl, lk, hcd⟩ := F.ex
    exact .of_eq rfl
  · obtain ⟨f2, fd2, hm2, F2, _, R⟩ := ok_law (P := l.prog) (w := w) (base := base) T
    cases hm.symm.trans hm2
    obtain ⟨oc, od, kV, doc, pm, an, cdv, ct, osl, rfl, lk, hcd⟩ := F.ex
    obtain ⟨oc2, od2, kV2, doc2, pm2, an2, cdv2, ct2, osl2, rfl, lk2, hcd2⟩ := F2.ex
    cases lk.symm.trans lk2
    exact R
end Eyes
open PySem PySem.W PyProof.Rows
set_option maxHeartbeats 0 in
theorem PySem.Challenge.cw_pooledeyes_k00_errors_by_themselves_holds : PySem.Challenge.rw_pooledeyes_k00_errors_by_themselves.Holds := by
  w_on; o_law; refine EyesHd.headq (by first | assumption | decide +kernel) ?hw ?hc; (case hw => w_witness2)
  delta EyesHd.hk0
  k_fill
  refine L2.walk_of (l := PySem.Challenge.rw_pooledeyes_k00_errors_by_themselves) (n := 63) (k := 60) (x := "_law_script") (CX := fun _ => L2.CX0) (sp := fun w => Eyes.spLaw _) rfl (by decide) EyesHd.lawD_dfl ⟨rfl, by decide, by decide⟩ (fun w h Y => PySem.W.kIn_of Y) ?F (fun _ _ a ns hl _ hS => ⟨a, ns, rfl, hS, hl, fun _ => rfl⟩) (fun _ _ _ _ _ h => h)
  case F =>
    intro w mg fa h KX G hmg
    rw [EyesHd.lawD_name] at hmg
    refine' Eyes.fin (Eyes.txt_mk KX G ?h1 ?h2 ?h3 ?h4 ?h5 ?h6 ?h7 ?h8 ?h9 ?h10 ?h11 ?h12 ?h13 ?h14 ?h15 ?h16 ?h17 ?h18 ?h19 ?h20 ?h21 ?h22 ?h23 ?h24 ?h25 ?h26 ?h27 ?h28 ?h29 ?h30 ?h31 ?h32 ?h33 ?h34 ?h35 ?h36 ?h37 ?h38 ?h39 ?h40 ?h41 ?h42 ?h43 ?h44 ?h45 ?h46 ?h47 ?h48 ?h49 ?h50 ?h51 ?h52 ?h53 ?h54 ?h55 ?h56 ?h57 ?h58 ?h59 ?h60 ?h61 ?h62 ?h63 ?h64 ?h65 ?h66 ?h67 ?h68 ?h69 ?h70 ?h71 ?h72 ?h73 ?h74 ?h75 ?h76 ?h77 ?h78 ?h79 ?h80 ?h81 ?h82 ?h83 ?h84 ?h85 ?h86 ?h87 ?h88 ?h89 ?h90 ?h91 ?h92 ?h93 ?h94 ?h95 ?h96 ?h97 ?h98 ?h99 ?h100 ?h101 ?h102 ?h103 ?h104 ?h105 ?h106 ?h107 ?h108 ?h109 ?h110 ?h111 ?h112 ?h113 ?h114 ?h115 ?h116 ?h117 ?h118 ?h119 ?h120 ?h121 ?h122 ?h123 ?h124 ?h125 ?h126 ?h127 ?h128 ?h129 ?h130 ?h131 ?h132 ?h133 ?h134 ?h135 ?h136 ?h137 ?h138 ?h139 ?h140 ?h141 ?h142 ?h143 ?h144 ?h145 ?h146 ?h147 ?h148 ?h149 ?h150 ?h151 ?h152 ?h153 ?h154 ?h155 ?h156 ?h157 ?h158 ?h159 ?h160 ?h161 ?h162 ?h163 ?h164 ?h165 ?h166 ?h167 ?h168 ?h169 ?h170 ?h171 ?h172 ?h173 ?h174 ?h175 ?h176 ?h177 ?h178 ?h179 ?h180 ?h181 ?h182 ?h183 ?h184 ?h185 ?h186 ?h187 ?h188 ?h189 ?h190 ?h191 ?h192 ?h193 ?h194 ?h195 ?h196 ?h197 ?h198 ?h199 ?h200 ?h201 ?h202 ?h203 ?h204 ?h205 ?h206 ?h207 ?h208 ?h209 ?h210 ?h211 ?h212 ?h213 ?h214 ?h215 ?h216 ?h217 ?h218 ?h219 ?h220 ?h221 ?h222 ?h223 ?h224 ?h225 ?h226 ?h227 ?h228 ?h229 ?h230 ?h231 ?h232 ?h233 ?h234 ?h235 ?h236 ?h237 ?h238 ?h239 ?h240 ?h241 ?h242 ?h243 ?h244 ?h245 ?h246 ?h247 ?h248 ?h249 ?h250 ?h251 ?h252 ?h253 ?h254 ?h255 ?h256 ?h257 ?h258 ?h259 ?h260 ?h261 ?h262 ?h263 ?h264 ?h265 ?h266 ?h267 ?h268 ?h269 ?h270 ?h271 ?h272 ?h273 ?h274 ?h275 ?h276 ?h277 ?h278 ?h279 ?h280 ?h281 ?h282 ?h283 ?h284 ?h285 ?h286 ?h287 ?h288 ?h289 ?h290 ?h291 ?h292 ?h293 ?h294 ?h295 ?h296 ?h297 ?h298 ?h299 ?h300 ?h301 ?h302 ?h303 ?h304 ?h305 ?h306 ?h307 ?h308 ?h309 ?h310 ?h311 ?h312 ?h313 ?h314 ?h315 ?h316 ?h317 ?h318 ?h319 ?h320 ?h321 ?h322 ?h323 ?h324 ?h325 ?h326 ?h327 ?h328 ?h329 ?h330 ?h331 ?h332 ?h333 ?h334 ?h335 ?h336 ?h337 ?h338 ?h339 ?h340 ?h341 ?h342 ?h343 ?h344 ?h345 ?h346 ?h347 ?h348 ?h349 ?h350 ?h351 ?h352 ?h353 ?h354 ?h355 ?h356 ?h357 ?h358 ?h359 ?h360 ?h361 ?h362 ?h363 ?h364 ?h365 ?h366 ?h367 ?h368 ?h369 ?h370 ?h371 ?h372 ?h373 ?h374 ?h375 ?h376 ?h377 ?h378 ?h379 ?h380 ?h381 ?h382 ?h383 ?h384 ?h385 ?h386 ?h387 ?h388 ?h389 ?h390 ?h391 ?h392 ?h393 ?h394 ?h395 ?h396 ?h397 ?h398 ?h399 ?h400 ?h401 ?h402 ?h403 ?h404 ?h405 ?h406 ?h407 ?h408 ?h409 ?h410 ?h411 ?h412 ?h413 ?h414 ?h415 ?h416 ?h417 ?h418 ?h419 ?h420 ?h421 ?h422 ?h423 ?h424 ?h425 ?h426 ?h427 ?h428 ?h429 ?h430 ?h431 ?h432 ?h433 ?h434 ?h435 ?h436 ?h437 ?h438 ?h439 ?h440 ?h441 ?h442 ?h443 ?h444 ?h445 ?h446 ?h447 ?h448 ?h449 ?h450 ?h451 ?h452 ?h453 ?h454 ?h455 ?h456 ?h457 ?h458 ?h459 ?h460 ?h461 ?h462 ?h463 ?h464 ?h465 ?h466 ?h467 ?h468 ?h469 ?h470 ?h471 ?h472 ?h473 ?h474 ?h475 ?h476 ?h477 ?h478 ?h479 ?h480 ?h481 ?h482 ?h483 ?h484 ?h485 ?h486 ?h487 ?h488 ?h489 ?h490 ?h491 ?h492 ?h493 ?h494 ?h495 ?h496 ?h497 ?h498 ?h499 ?h500 ?h501 ?h502 ?h503 ?h504 ?h505 ?h506 ?h507 ?h508 ?h509 ?h510 ?h511 ?h512 ?h513 ?h514 ?h515 ?h516 ?h517 ?h518 ?h519 ?h520 ?h521 ?h522 ?h523 ?h524 ?h525 ?h526 ?h527 ?h528 ?h529 ?h530 ?h531 ?h532 ?h533 ?h534 ?h535 ?h536 ?h537 ?h538 ?h539 ?h540 ?h541 ?h542 ?h543 ?h544 ?h545 ?h546 ?h547 ?h548 ?h549 ?h550 ?h551 ?h552 ?h553 ?h554 ?h555 ?h556 ?h557 ?h558 ?h559 ?h560 ?h561 ?h562 ?h563 ?h564 ?h565 ?h566 ?h567 ?h568 ?h569 ?h570 ?h571 ?h572 ?h573 ?h574 ?h575 ?h576 ?h577 ?h578 ?h579 ?h580 ?h581 ?h582 ?h583 ?h584 ?h585 ?h586 ?h587 ?h588 ?h589 ?h590 ?h591 ?h592 ?h593 ?h594 ?h595 ?h596 ?h597 ?h598 ?h599 ?h600 ?h601 ?h602 ?h603 ?h604 ?h605 ?h606 ?h607 ?h608 ?h609 ?h610 ?h611 ?h612 ?h613 ?h614 ?h615 ?h616 ?h617 ?h618 ?h619 ?h620 ?h621 ?h622 ?h623 ?h624 ?h625 ?h626 ?h627 ?h628 ?h629 ?h630 ?h631 ?h632 ?h633 ?h634 ?h635 ?h636 ?h637 ?h638 ?h639 ?h640 ?h641 ?h642 ?h643 ?h644 ?h645 ?h646 ?h647 ?h648 ?h649 ?h650) hmg
    (case h1 => k_is); (case h2 => k_is); (case h3 => k_is); (case h4 => k_is); (case h5 => k_is); (case h6 => k_is)
    (case h7 => k_is); (case h8 => k_is); (case h9 => k_is); (case h10 => k_is); (case h11 => k_is); (case h12 => k_is)
    (case h13 => k_is); (case h14 => k_is); (case h15 => k_is); (case h16 => k_is); (case h17 => k_is); (case h18 => k_is)
    (case h19 => k_is); (case h20 => k_is); (case h21 => k_is); (case h22 => k_is); (case h23 => k_is); (case h24 => k_is)
    (case h25 => k_is); (case h26 => k_is); (case h27 => k_is); (case h28 => k_is); (case h29 => k_is); (case h30 => k_is)
    (case h31 => k_is); (case h32 => k_is); (case h33 => k_is); (case h34 => k_is); (case h35 => k_is); (case h36 => k_is)
    (case h37 => k_is); (case h38 => k_is); (case h39 => k_is); (case h40 => k_is); (case h41 => k_is); (case h42 => k_is)
    (case h43 => k_is); (case h44 => k_is); (case h45 => k_is); (case h46 => k_is); (case h47 => k_is); (case h48 => k_is)
    (case h49 => k_is); (case h50 => k_is); (case h51 => k_is); (case h52 => k_is); (case h53 => kernel_rfl); (case h54 => k_is)
    (case h55 => k_is); (case h56 => k_is); (case h57 => k_is); (case h58 => kernel_rfl); (case h59 => k_is); (case h60 => k_is)
    (case h61 => k_is); (case h62 => k_is); (case h63 => k_is); (case h64 => k_is); (case h65 => k_is); (case h66 => k_is)
    (case h67 => k_is); (case h68 => k_is); (case h69 => k_is); (case h70 => kernel_rfl); (case h71 => k_is); (case h72 => k_is)
    (case h73 => k_is); (case h74 => k_is); (case h75 => kernel_rfl); (case h76 => k_is); (case h77 => k_is); (case h78 => k_is)
    (case h79 => k_is); (case h80 => k_is); (case h81 => k_is); (case h82 => k_is); (case h83 => k_is); (case h84 => k_is)
    (case h85 => k_is); (case h86 => k_is); (case h87 => kernel_rfl); (case h88 => k_is); (case h89 => k_is); (case h90 => k_is)
    (case h91 => k_is); (case h92 => kernel_rfl); (case h93 => k_is); (case h94 => k_is); (case h95 => k_is); (case h96 => k_is)
    (case h97 => k_is); (case h98 => k_is); (case h99 => k_is); (case h100 => k_is); (case h101 => k_is); (case h102 => k_is)
    (case h103 => k_is); (case h104 => kernel_rfl); (case h105 => k_is); (case h106 => k_is); (case h107 => k_is); (case h108 => k_is)
    (case h109 => kernel_rfl); (case h110 => k_is); (case h111 => k_is); (case h112 => k_is); (case h113 => k_is); (case h114 => k_is)
    (case h115 => k_is); (case h116 => k_is); (case h117 => k_is); (case h118 => k_is); (case h119 => k_is); (case h120 => k_is)
    (case h121 => kernel_rfl); (case h122 => k_is); (case h123 => k_is); (case h124 => k_is); (case h125 => k_is); (case h126 => kernel_rfl)
    (case h127 => k_is); (case h128 => k_is); (case h129 => k_is); (case h130 => k_is); (case h131 => k_is); (case h132 => k_is)
    (case h133 => k_is); (case h134 => k_is); (case h135 => k_is); (case h136 => k_is); (case h137 => k_is); (case h138 => kernel_rfl)
    (case h139 => k_is); (case h140 => k_is); (case h141 => k_is); (case h142 => k_is); (case h143 => kernel_rfl); (case h144 => k_is)
    (case h145 => k_is); (case h146 => k_is); (case h147 => k_is); (case h148 => k_is); (case h149 => k_is); (case h150 => k_is)
    (case h151 => k_is); (case h152 => k_is); (case h153 => k_is); (case h154 => k_is); (case h155 => kernel_rfl); (case h156 => k_is)
    (case h157 => k_is); (case h158 => k_is); (case h159 => k_is); (case h160 => kernel_rfl); (case h161 => k_is); (case h162 => k_is)
    (case h163 => k_is); (case h164 => k_is); (case h165 => k_is); (case h166 => k_is); (case h167 => k_is); (case h168 => k_is)
    (case h169 => k_is); (case h170 => k_is); (case h171 => k_is); (case h172 => kernel_rfl); (case h173 => k_is); (case h174 => k_is)
    (case h175 => k_is); (case h176 => k_is); (case h177 => kernel_rfl); (case h178 => k_is); (case h179 => k_is); (case h180 => k_is)
    (case h181 => k_is); (case h182 => k_is); (case h183 => k_is); (case h184 => k_is); (case h185 => k_is); (case h186 => k_is)
    (case h187 => k_is); (case h188 => k_is); (case h189 => kernel_rfl); (case h190 => k_is); (case h191 => k_is); (case h192 => k_is)
    (case h193 => k_is); (case h194 => kernel_rfl); (case h195 => k_is); (case h196 => k_is); (case h197 => k_is); (case h198 => k_is)
    (case h199 => k_is); (case h200 => k_is); (case h201 => k_is); (case h202 => k_is); (case h203 => k_is); (case h204 => k_is)
    (case h205 => k_is); (case h206 => kernel_rfl); (case h207 => k_is); (case h208 => k_is); (case h209 => k_is); (case h210 => k_is)
    (case h211 => kernel_rfl); (case h212 => k_is); (case h213 => k_is); (case h214 => k_is); (case h215 => k_is); (case h216 => k_is)
    (case h217 => k_is); (case h218 => k_is); (case h219 => k_is); (case h220 => k_is); (case h221 => k_is); (case h222 => k_is)
    (case h223 => kernel_rfl); (case h224 => k_is); (case h225 => k_is); (case h226 => k_is); (case h227 => k_is); (case h228 => kernel_rfl)
    (case h229 => k_is); (case h230 => k_is); (case h231 => k_is); (case h232 => k_is); (case h233 => k_is); (case h234 => k_is)
    (case h235 => k_is); (case h236 => k_is); (case h237 => k_is); (case h238 => k_is); (case h239 => k_is); (case h240 => kernel_rfl)
    (case h241 => k_is); (case h242 => k_is); (case h243 => k_is); (case h244 => k_is); (case h245 => kernel_rfl); (case h246 => k_is)
    (case h247 => k_is); (case h248 => k_is); (case h249 => k_is); (case h250 => k_is); (case h251 => k_is); (case h252 => k_is)
    (case h253 => k_is); (case h254 => k_is); (case h255 => k_is); (case h256 => k_is); (case h257 => kernel_rfl); (case h258 => k_is)
    (case h259 => k_is); (case h260 => k_is); (case h261 => k_is); (case h262 => kernel_rfl); (case h263 => k_is); (case h264 => k_is)
    (case h265 => k_is); (case h266 => k_is); (case h267 => k_is); (case h268 => k_is); (case h269 => k_is); (case h270 => k_is)
    (case h271 => k_is); (case h272 => k_is); (case h273 => kernel_rfl); (case h274 => k_is); (case h275 => k_is); (case h276 => k_is)
    (case h277 => kernel_rfl); (case h278 => k_is); (case h279 => k_is); (case h280 => k_is); (case h281 => k_is); (case h282 => k_is)
    (case h283 => kernel_rfl); (case h284 => k_is); (case h285 => k_is); (case h286 => k_is); (case h287 => k_is); (case h288 => kernel_rfl)
    (case h289 => k_is); (case h290 => k_is); (case h291 => k_is); (case h292 => k_is); (case h293 => k_is); (case h294 => k_is)
    (case h295 => k_is); (case h296 => k_is); (case h297 => k_is); (case h298 => k_is); (case h299 => kernel_rfl); (case h300 => k_is)
    (case h301 => k_is); (case h302 => k_is); (case h303 => kernel_rfl); (case h304 => k_is); (case h305 => k_is); (case h306 => k_is)
    (case h307 => k_is); (case h308 => k_is); (case h309 => kernel_rfl); (case h310 => k_is); (case h311 => k_is); (case h312 => k_is)
    (case h313 => k_is); (case h314 => kernel_rfl); (case h315 => k_is); (case h316 => k_is); (case h317 => k_is); (case h318 => k_is)
    (case h319 => k_is); (case h320 => k_is); (case h321 => k_is); (case h322 => k_is); (case h323 => k_is); (case h324 => k_is)
    (case h325 => k_is); (case h326 => k_is); (case h327 => kernel_rfl); (case h328 => k_is); (case h329 => k_is); (case h330 => k_is)
    (case h331 => k_is); (case h332 => kernel_rfl); (case h333 => k_is); (case h334 => k_is); (case h335 => k_is); (case h336 => k_is)
    (case h337 => k_is); (case h338 => k_is); (case h339 => k_is); (case h340 => k_is); (case h341 => k_is); (case h342 => k_is)
    (case h343 => k_is); (case h344 => k_is); (case h345 => kernel_rfl); (case h346 => k_is); (case h347 => k_is); (case h348 => k_is)
    (case h349 => k_is); (case h350 => kernel_rfl); (case h351 => k_is); (case h352 => k_is); (case h353 => k_is); (case h354 => k_is)
    (case h355 => k_is); (case h356 => k_is); (case h357 => k_is); (case h358 => k_is); (case h359 => k_is); (case h360 => k_is)
    (case h361 => kernel_rfl); (case h362 => k_is); (case h363 => k_is); (case h364 => k_is); (case h365 => kernel_rfl); (case h366 => k_is)
    (case h367 => k_is); (case h368 => k_is); (case h369 => k_is); (case h370 => kernel_rfl); (case h371 => k_is); (case h372 => k_is)
    (case h373 => k_is); (case h374 => kernel_rfl); (case h375 => k_is); (case h376 => k_is); (case h377 => k_is); (case h378 => k_is)
    (case h379 => k_is); (case h380 => kernel_rfl); (case h381 => k_is); (case h382 => k_is); (case h383 => k_is); (case h384 => k_is)
    (case h385 => kernel_rfl); (case h386 => k_is); (case h387 => k_is); (case h388 => k_is); (case h389 => k_is); (case h390 => k_is)
    (case h391 => k_is); (case h392 => k_is); (case h393 => k_is); (case h394 => k_is); (case h395 => k_is); (case h396 => k_is)
    (case h397 => kernel_rfl); (case h398 => k_is); (case h399 => k_is); (case h400 => k_is); (case h401 => k_is); (case h402 => kernel_rfl)
    (case h403 => k_is); (case h404 => k_is); (case h405 => k_is); (case h406 => k_is); (case h407 => k_is); (case h408 => k_is)
    (case h409 => k_is); (case h410 => k_is); (case h411 => k_is); (case h412 => k_is); (case h413 => k_is); (case h414 => kernel_rfl)
    (case h415 => k_is); (case h416 => k_is); (case h417 => k_is); (case h418 => k_is); (case h419 => kernel_rfl); (case h420 => k_is)
    (case h421 => k_is); (case h422 => k_is); (case h423 => k_is); (case h424 => k_is); (case h425 => k_is); (case h426 => k_is)
    (case h427 => k_is); (case h428 => k_is); (case h429 => k_is); (case h430 => k_is); (case h431 => kernel_rfl); (case h432 => k_is)
    (case h433 => k_is); (case h434 => k_is); (case h435 => k_is); (case h436 => kernel_rfl); (case h437 => k_is); (case h438 => k_is)
    (case h439 => k_is); (case h440 => k_is); (case h441 => k_is); (case h442 => k_is); (case h443 => k_is); (case h444 => k_is)
    (case h445 => k_is); (case h446 => k_is); (case h447 => k_is); (case h448 => kernel_rfl); (case h449 => k_is); (case h450 => k_is)
    (case h451 => k_is); (case h452 => k_is); (case h453 => kernel_rfl); (case h454 => k_is); (case h455 => k_is); (case h456 => k_is)
    (case h457 => k_is); (case h458 => k_is); (case h459 => k_is); (case h460 => k_is); (case h461 => k_is); (case h462 => k_is)
    (case h463 => k_is); (case h464 => k_is); (case h465 => kernel_rfl); (case h466 => k_is); (case h467 => k_is); (case h468 => k_is)
    (case h469 => k_is); (case h470 => kernel_rfl); (case h471 => k_is); (case h472 => k_is); (case h473 => k_is); (case h474 => k_is)
    (case h475 => k_is); (case h476 => k_is); (case h477 => k_is); (case h478 => k_is); (case h479 => k_is); (case h480 => k_is)
    (case h481 => k_is); (case h482 => kernel_rfl); (case h483 => k_is); (case h484 => k_is); (case h485 => k_is); (case h486 => k_is)
    (case h487 => kernel_rfl); (case h488 => k_is); (case h489 => k_is); (case h490 => k_is); (case h491 => k_is); (case h492 => k_is)
    (case h493 => k_is); (case h494 => k_is); (case h495 => k_is); (case h496 => k_is); (case h497 => k_is); (case h498 => k_is)
    (case h499 => kernel_rfl); (case h500 => k_is); (case h501 => k_is); (case h502 => k_is); (case h503 => k_is); (case h504 => kernel_rfl)
    (case h505 => k_is); (case h506 => k_is); (case h507 => k_is); (case h508 => k_is); (case h509 => k_is); (case h510 => k_is)
    (case h511 => k_is); (case h512 => k_is); (case h513 => k_is); (case h514 => k_is); (case h515 => k_is); (case h516 => kernel_rfl)
    (case h517 => k_is); (case h518 => k_is); (case h519 => k_is); (case h520 => k_is); (case h521 => kernel_rfl); (case h522 => k_is)
    (case h523 => k_is); (case h524 => k_is); (case h525 => k_is); (case h526 => k_is); (case h527 => k_is); (case h528 => k_is)
    (case h529 => k_is); (case h530 => k_is); (case h531 => k_is); (case h532 => k_is); (case h533 => kernel_rfl); (case h534 => k_is)
    (case h535 => k_is); (case h536 => k_is); (case h537 => k_is); (case h538 => kernel_rfl); (case h539 => k_is); (case h540 => k_is)
    (case h541 => k_is); (case h542 => k_is); (case h543 => k_is); (case h544 => k_is); (case h545 => k_is); (case h546 => k_is)
    (case h547 => k_is); (case h548 => k_is); (case h549 => kernel_rfl); (case h550 => k_is); (case h551 => k_is); (case h552 => k_is)
    (case h553 => kernel_rfl); (case h554 => k_is); (case h555 => k_is); (case h556 => k_is); (case h557 => k_is); (case h558 => kernel_rfl)
    (case h559 => kernel_rfl); (case h560 => kernel_rfl); (case h561 => k_is); (case h562 => k_is); (case h563 => kernel_rfl); (case h564 => k_is)
    (case h565 => k_is); (case h566 => k_is); (case h567 => k_is); (case h568 => kernel_rfl); (case h569 => k_is); (case h570 => k_is)
    (case h571 => k_is); (case h572 => k_is); (case h573 => k_is); (case h574 => k_is); (case h575 => k_is); (case h576 => kernel_rfl)
    (case h577 => k_is); (case h578 => k_is); (case h579 => k_is); (case h580 => k_is); (case h581 => kernel_rfl); (case h582 => k_is)
    (case h583 => k_is); (case h584 => k_is); (case h585 => k_is); (case h586 => k_is); (case h587 => k_is); (case h588 => k_is)
    (case h589 => k_is); (case h590 => k_is); (case h591 => k_is); (case h592 => k_is); (case h593 => k_is); (case h594 => k_is)
    (case h595 => k_is); (case h596 => k_is); (case h597 => k_is); (case h598 => k_is); (case h599 => k_is); (case h600 => k_is)
    (case h601 => k_is); (case h602 => k_is); (case h603 => k_is); (case h604 => k_is); (case h605 => k_is); (case h606 => k_is)
    (case h607 => k_is); (case h608 => k_is); (case h609 => k_is); (case h610 => k_is); (case h611 => k_is); (case h612 => k_is)
    (case h613 => k_is); (case h614 => k_is); (case h615 => k_is); (case h616 => k_is); (case h617 => k_is); (case h618 => k_is)
    (case h619 => k_is); (case h620 => k_is); (case h621 => k_is); (case h622 => k_is); (case h623 => k_is); (case h624 => k_is)
    (case h625 => k_is); (case h626 => k_is); (case h627 => k_is); (case h628 => k_is); (case h629 => k_is); (case h630 => k_is)
    (case h631 => k_is); (case h632 => k_is); (case h633 => k_is); (case h634 => k_is); (case h635 => k_is); (case h636 => k_is)
    (case h637 => k_is); (case h638 => k_is); (case h639 => k_is); (case h640 => k_is); (case h641 => k_is); (case h642 => k_is)
    (case h643 => k_is); (case h644 => k_is); (case h645 => k_is); (case h646 => k_is); (case h647 => k_is); (case h648 => k_is)
    (case h649 => k_is); (case h650 => k_is)

