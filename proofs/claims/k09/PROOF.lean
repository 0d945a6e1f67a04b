import PyProof.Rows.All
import Wide.All
import OpenK.AllK
import Wide.FinOn
import HandS.HeadHook4
import HandS.Head0
import HandS.Head1
import HandS.Head2
import HandS.ForMost
import HandS.IsInst
import HandS.Style
import HandS.Evl
import HandS.Defaults
import HandS.Walk
import HandS.Zip
import HandS.ClsMeth
import HandS.Deep
import HandS.ListEq
import HandS.DeepEq
import HandS.Base
import HandS.Call
import HandS.Dict
import HandS.More
import HandS.RaiseMore
import KE.KFmtOwn
import KE.KDictList
import HandS.FStr
import HandS.Small
import HandS.Conv
import PyProof.ListRange
import HandS.MakeKwOnly
import HandS.MakeKw
import PyProof.Rows.StrMeet
import HandS.Exc
import HandS.TryMany
import HandS.ExcField
import HandS.ExcInit
import HandS.ExcOwn
import HandS.WordsExc
import HandS.Lambda
import HandS.EndTab
import HandS.Star
import KE.GoesEnum
import HandS.Set
import HandS.Strs
import PyProof.Rows.SetFrom
import KE.GoesEnumKw
import HandS.SetKeys
import PyProof.DictMoreH
import HandS.TupAny
import KE.KDictZip
import KE.KStar
import HandS.TupMul
import HandS.SetFor
import PyProof.Rows.SortStr
import HandS.DictComp
import HandS.Comp
import KE.KUnpackStar
import HandS.Text
import HandS.ExcValue
import KE.KIntText
import PySem.Challenge.RW_pooledeyes_k09_whole_worlds_from_ties
set_option Elab.async false
set_option linter.all false
set_option maxRecDepth 100000
/-! The head by one kernel run, ahead of all else: it wants the memory that the rest would hold. -/
namespace EyesHd
open PySem PySem.Spec PyProof.Rows L2
section
local macro_rules | `(tactic| o_head $H:term) => `(tactic| exact False.elim (by assumption))
set_option maxHeartbeats 0 in
theorem k0 (hf : False) : PySem.Challenge.rw_pooledeyes_k09_whole_worlds_from_ties.Holds := by
  w_on; o_law; k_head
end
abbrev RWo : PySem.W.OpenRow := PySem.W.OpenLaw.row PySem.Challenge.rw_pooledeyes_k09_whole_worlds_from_ties
def lawI : Nat := 56
def hq : Program := PySem.W.view RWo.prog [lawI]
def nm0 : List Str := [("_wall" : Str), ("PooledError" : Str), ("InvalidName" : Str), ("InvalidNumber" : Str), ("InvalidText" : Str), ("InvalidTie" : Str), ("InvalidParting" : Str), ("InvalidCase" : Str), ("TooMany" : Str), ("LETTERS" : Str), ("MOST_LETTERS" : Str), ("is_name" : Str), ("is_number" : Str), ("is_parting" : Str), ("is_item" : Str), ("apart" : Str), ("linked" : Str), ("by_keys" : Str), ("met" : Str), ("joined" : Str)]
def nm1 : List Str := [("within" : Str), ("beside" : Str), ("check_names" : Str), ("check_cases" : Str), ("check_many" : Str), ("check_ties" : Str), ("is_tie" : Str), ("is_parting_to" : Str), ("tied_partings" : Str), ("counting" : Str), ("read_many" : Str), ("read_parting" : Str), ("World" : Str), ("world_with" : Str), ("_law_bag" : Str), ("_law_draw" : Str), ("_law_of" : Str), ("_law_mixed" : Str), ("_law_same" : Str), ("_law_title" : Str)]
def nm2 : List Str := [("_law_titles" : Str), ("_law_alone" : Str), ("_law_merged" : Str), ("_law_views" : Str), ("_law_seen" : Str), ("_law_knots" : Str), ("_law_chapter" : Str), ("_law_world_so" : Str), ("_law_ways_so" : Str), ("_law_unlike_so" : Str), ("_law_copies_so" : Str)]
def nms : List Str := nm0 ++ nm1 ++ nm2
def lawD : DefRec := HandSHeadRun.topDef RWo.prog lawI
theorem lawD_name : lawD.name = ("law" : Str) := by kernel_rfl
theorem lawD_dfl : lawD.params.defaults = [] := by kernel_rfl
def as0 : List Addr := [2, 3, 15, 17, 18, 20, 21, 22, 29, 30, 31, 32, 35, 42, 44, 45, 47, 48, 49, 50, 51, 54, 61, 63, 64, 66, 67, 68, 69, 70, 73, 80, 82, 83, 85, 86, 87, 88, 89, 92, 99, 101, 102, 104, 105, 106, 107, 108, 111, 118, 120, 121, 123, 124, 125, 126, 127, 130, 137, 139, 140, 142, 143, 144, 145, 146, 149, 156, 158, 159, 161, 162, 163, 164, 165, 168, 171, 172, 173, 175, 176, 178, 179, 180, 183, 184, 185, 187, 188, 190, 191, 192, 194, 195, 197, 198, 199, 201, 202, 204, 205, 206, 208, 209, 211, 212, 213, 215, 216, 218, 219, 220, 223, 224, 225, 228, 229, 230, 233, 234, 235, 237, 238, 240, 241, 242, 244, 245, 247, 248, 249, 251, 252, 254, 255, 256, 258, 259, 261, 262, 263, 265, 266, 268, 269, 270, 272, 273, 275, 276, 277, 280, 281, 282, 285, 286, 287, 290, 291, 292, 295, 296, 304, 305, 306, 308, 309, 311, 312, 313, 315, 316, 318, 319, 320, 321, 322, 323, 325, 326, 328, 329, 330, 331, 332, 333, 335, 336, 338, 339, 340, 342, 343, 345, 346, 347, 349, 350, 352, 353, 354, 357, 358, 359, 361, 362, 364, 365, 366, 368, 369, 371, 372, 373, 375, 376, 378, 379, 380, 382, 383, 385, 386, 387, 389, 390, 392, 393, 394, 397, 398, 399, 402, 403, 404, 406, 407, 409, 410, 411, 413, 414, 416, 417, 418, 420, 421, 423, 424, 425, 427, 428, 430, 431, 432, 433, 434, 435, 436, 439, 441, 442, 444, 445, 446, 448, 449, 451, 452, 453, 455, 456, 458, 459, 460, 462, 463, 465, 466, 467, 469, 470, 472, 473, 474, 477, 478, 479, 482, 483, 484, 487, 488, 489, 491, 492, 494, 495, 496, 499, 500, 501, 503, 504, 506, 507, 508, 510, 511, 513, 514, 515, 517, 518, 520, 521, 522, 525, 526, 527, 529, 530, 532, 533, 534, 537, 538, 539, 541, 542, 544, 545, 546, 548, 549, 551, 552, 553, 556, 557]
noncomputable abbrev hk0 : PySem.W.Hook := PySem.W.kHook EyesHd.k0.heap_39 as0 (fun _ => by kernel_rfl)
noncomputable def ob0 (s : PySem.W.SharedT) : hk0.α := as0.map (HandSHeadRun.getT s)
set_option maxHeartbeats 0 in
theorem run0 (w : World) : HandSHeadRun.RunEq RWo hq hk0 ob0 20000 nms w := by
  intro os
  kernel_rfl
set_option maxHeartbeats 0 in
theorem headq (k1 : RWo.wellSaid = true) (hw : RWo.toRowW.promised) (hc : PySem.W.WalkO hq nms (PySem.W.XL hq []) hk0.says RWo.toRowW lawD [] (fun f vs => PySem.call f vs)) : RWo.Holds :=
  HandSHeadRun.head_any (r := RWo) (q := hq) (H := hk0) (ob := ob0) (M := 20000) (loose := nms) (d := lawD) (kwd := [])
    (fun s => by unfold ob0; rw [show HandSHeadRun.getT s = s.abs.heap.get? from funext (HandSHeadRun.getT_eq s)]; rfl) (by kernel_rfl) (fun s => by kernel_rfl) run0 (by kernel_rfl) (by kernel_rfl) (by kernel_rfl) (by rfl) k1 (by decide +kernel) ⟨rfl, rfl, rfl, rfl, rfl, by decide +kernel⟩ hw hc
end EyesHd

set_option Elab.async false
set_option linter.all false
set_option maxRecDepth 100000
set_option maxHeartbeats 4000000
/-! My own short words: a def of the text with its promise, calls of it. -/
namespace Eyes
open PySem PySem.Spec PyProof.Rows L2
def FnAt (K : PySem.W.Frag) (mg : Str → Option Value) (x : Str) (st : Stmt) (ps : List Str) : Prop :=
  ∃ (f : Addr) (fd : FuncData), Fun K x x st f fd ∧ Binds K fd ps [] ∧ mg x = some (.ref f)
def Pr (P : Program) (w : World) (K : PySem.W.Frag) (mg : Str → Option Value) (base : Heap) (x : Str) (st : Stmt) (ps : List Str) (k : Nat) (sp : Sp) : Prop :=
  ∃ (f : Addr) (fd : FuncData), mg x = some (.ref f) ∧ Fun K x x st f fd ∧ Binds K fd ps [] ∧ FnOk P w K mg base CX0 k f fd ps sp
def InitAt (K : PySem.W.Frag) (C : Addr) (qual : Str) (st : Stmt) (ps : List Str) : Prop :=
  ∃ (f : Addr) (fd : FuncData), Mk K C f ∧ Fun K "__init__" qual st f fd ∧ Binds K fd ps []
def PrI (P : Program) (w : World) (K : PySem.W.Frag) (mg : Str → Option Value) (base : Heap) (C : Addr) (ps : List Str) (k : Nat) (sp : Sp) : Prop :=
  ∃ (f : Addr) (fd : FuncData), Mk K C f ∧ Binds K fd ps [] ∧ FnOk P w K mg base CX0 k f fd ps sp
def MethAt (K : PySem.W.Frag) (C : Addr) (m qual : Str) (st : Stmt) (ps : List Str) : Prop :=
  ∃ (f : Addr) (fd : FuncData), Meth K C m f ∧ Fun K m qual st f fd ∧ Binds K fd ps []
def PrM (P : Program) (w : World) (K : PySem.W.Frag) (mg : Str → Option Value) (base : Heap) (C : Addr) (m : Str) (ps : List Str) (k : Nat) (sp : Sp) : Prop :=
  ∃ (f : Addr) (fd : FuncData), Meth K C m f ∧ Binds K fd ps [] ∧ FnOk P w K mg base CX0 k f fd ps sp
theorem kit_own {K : PySem.W.Frag} {C : Addr} {T : String} (h : PySem.W.subIn K (.ref C) (.type T) = some false) (m : PySem.W.kitMeta T = true) : PySem.W.kitOne K (.ref C) (.type T) = some false := by
  unfold PySem.W.kitOne
  have e : (Value.ref C == Value.type T) = false := rfl
  rw [e]
  show (if PySem.W.kitMeta T = true then PySem.W.subIn K (.ref C) (.type T) else none) = some false
  rw [if_pos m]
  exact h
structure ClsY (K : PySem.W.Frag) (C : Addr) : Prop where
  ty1 : PySem.W.findIn K (.ref C) "__class__" = some (some (.builtin "object.__class__"))
  ty2 : PySem.W.specialIn K (.builtin "object.__class__") "__get__" = some (some (.builtin "getset_descriptor.__get__"))
  ty3 : PySem.W.takesIn K (.builtin "object.__class__") = some true
  ty4 : PySem.W.mroIn K C (.type "object") = some true
  k_str : PySem.W.kitOne K (.ref C) (.type "str") = some false
  k_int : PySem.W.kitOne K (.ref C) (.type "int") = some false
  k_bool : PySem.W.kitOne K (.ref C) (.type "bool") = some false
  k_list : PySem.W.kitOne K (.ref C) (.type "list") = some false
  k_tuple : PySem.W.kitOne K (.ref C) (.type "tuple") = some false
  k_dict : PySem.W.kitOne K (.ref C) (.type "dict") = some false
section
variable {P : Program} {w : World} {K : PySem.W.Frag} {mg : Str → Option Value} {base : Heap}
abbrev BindH (x qual : Str) (st : Stmt) (ps : List Str) : Prop := ∀ (kV doc pm : Value) (an : Option Addr) (cdv ct : Value) (us : List Value), us.length = ps.length → bindArgs (PySem.W.fnOf x qual (defArgs st) (defBody st) (defScope st) .none kV doc pm an cdv ct) ⟨us, []⟩ = pure (ps.zip us)
theorem fnAt_mk {h : Heap} (X : K.In h) (G : h.Ns mainGlobals mg) {x : Str} {st : Stmt} {ps : List Str} {f : Addr} {oc : Value} {od an : Option Addr} {osl : Array (Option Value)} {kV doc pm cdv ct : Value} (a : PySem.W.nsIn K mainGlobals x = some (some (.ref f)))
    (l : K.lookup f = some ⟨oc, od, .func (PySem.W.fnOf x x (defArgs st) (defBody st) (defScope st) .none kV doc pm an cdv ct), osl⟩) (c : PySem.W.codeIn K cdv x = true) (k : PySem.W.keepIn K (.ref f) = true) (hb : BindH x x st ps) : FnAt K mg x st ps :=
  ⟨f, _, fun_mk l c k, (fun_mk l c k).binds hb, PySem.W.mg_of X G a⟩
theorem methAt_mk {C : Addr} {m qual : Str} {st : Stmt} {ps : List Str} {f : Addr} {oc : Value} {od an : Option Addr} {osl : Array (Option Value)} {kV doc pm cdv ct : Value}
    (a : PySem.W.findIn K (.ref C) m = some (some (.ref f))) (i : PySem.W.isFn K (.ref f) = true) (l : K.lookup f = some ⟨oc, od, .func (PySem.W.fnOf m qual (defArgs st) (defBody st) (defScope st) .none kV doc pm an cdv ct), osl⟩)
    (c : PySem.W.codeIn K cdv qual = true) (k : PySem.W.keepIn K (.ref f) = true) (hb : BindH m qual st ps) : MethAt K C m qual st ps :=
  ⟨f, _, ⟨a, i, k⟩, fun_mk l c k, (fun_mk l c k).binds hb⟩
theorem pr_mk {x : Str} {st : Stmt} {N ps : List Str} {k : Nat} {sp : Sp} (A : FnAt K mg x st ps) (S : FnScope N ps (defScope st)) (len : ∀ vs H Q E, sp vs H Q E → vs.length = ps.length)
    (hbody : ∀ (f : Addr) (cdv : Value) (A : Around) (outer : List Env) (s : Shared) (H : Hp) (vs : List V) (Q : VK) (E : XK), Room k (A.deeper (envOfC x (defScope st) s.heap.objs.size f cdv)) → sp vs H Q E →
      ∃ t, PSs (cxOf CX0 P w K mg base N x (defScope st) f cdv A outer s H E).nox (defBody st) t ∧ t { nx := fun _ H' => Q .non H', rt := Q } (start N vs) H) : Pr P w K mg base x st ps (k + 1) sp := by
  obtain ⟨f, fd, F, hb, hm⟩ := A
  exact ⟨f, fd, hm, F, hb, F.ok S len fun cdv A outer s H vs Q E hr h => hbody f cdv A outer s H vs Q E hr h⟩
theorem prm_mk {C : Addr} {m qual : Str} {st : Stmt} {N ps : List Str} {k : Nat} {sp : Sp} (A : MethAt K C m qual st ps) (S : FnScope N ps (defScope st)) (len : ∀ vs H Q E, sp vs H Q E → vs.length = ps.length)
    (hbody : ∀ (f : Addr) (cdv : Value) (A : Around) (outer : List Env) (s : Shared) (H : Hp) (vs : List V) (Q : VK) (E : XK), Room k (A.deeper (envOfC qual (defScope st) s.heap.objs.size f cdv)) → sp vs H Q E →
      ∃ t, PSs (cxOf CX0 P w K mg base N qual (defScope st) f cdv A outer s H E).nox (defBody st) t ∧ t { nx := fun _ H' => Q .non H', rt := Q } (start N vs) H) : PrM P w K mg base C m ps (k + 1) sp := by
  obtain ⟨f, fd, hm, F, hb⟩ := A
  exact ⟨f, fd, hm, hb, F.ok S len fun cdv A outer s H vs Q E hr h => hbody f cdv A outer s H vs Q E hr h⟩
end
def pick {α : Type} (is : List Nat) (xs : List α) : List α := is.filterMap fun i => xs[i]?
theorem pick_vals {vs : List V} {us : List Value} (r : Vals vs us) : ∀ is : List Nat, Vals (pick is vs) (pick is us)
  | [] => .nil
  | i :: is => by
    unfold pick
    rw [List.filterMap_cons, List.filterMap_cons]
    cases h : vs[i]? with
    | none =>
      rw [r.none_of h]
      exact pick_vals r is
    | some v =>
      obtain ⟨u, hu, rv⟩ := r.get h
      rw [hu]
      exact .cons rv (pick_vals r is)
section
variable {X : Cx} {x : Str} {st : Stmt} {ps : List Str} {sp : Sp} {e : Expr} {es : List Expr} {kws : List Keyword} {p pos : Pos} {t tk : TA}
theorem pcall {j k : Nat} (G : Pr X.prog X.w X.K X.mg X.base x st ps j sp) (hr : Room k X.A) (ha : PA X (e :: es) t) (hj : j ≤ k := by first | decide | omega) (hg : Gl X x := by rfl)
    (hdb : (x == ("__debug__" : Str)) = false := by decide) (he : starEach (e :: es) X.env = (false, eval e X.env) :: starEach es X.env := by rfl) (hpl : (backTo pos (starEach es X.env)).any (·.1) = false := by rfl) :
    PE X (.Call (.Name x p) (e :: es) [] pos) (tCall sp [] (fun _ _ _ => False) t) := by
  obtain ⟨f, fd, hm, F0, hb, F⟩ := G
  exact pe_call F (hr.mono hj) hg hm F0.kp hb .nil (fun _ _ _ _ _ _ _ h => h.elim) ha hdb he hpl
def KwOk (x : Str) (st : Stmt) (ps : List Str) (n : Nat) (ks : List Str) (is : List Nat) : Prop :=
  ∀ (kV doc pm : Value) (an : Option Addr) (cdv ct : Value) (us ws : List Value), us.length = n → ws.length = ks.length → bindArgs (PySem.W.fnOf x x (defArgs st) (defBody st) (defScope st) .none kV doc pm an cdv ct) ⟨us, ks.zip ws⟩ = pure (ps.zip (pick is (us ++ ws)))
theorem pmake {C : Addr} {j k : Nat} (hm : X.mg x = some (.ref C)) (G : PrI X.prog X.w X.K X.mg X.base C ps j sp) (hr : Room k X.A) (ha : PA X (e :: es) t) (hj : j + 1 ≤ k := by first | decide | omega) (hg : Gl X x := by rfl)
    (hdb : (x == ("__debug__" : Str)) = false := by decide) (he : starEach (e :: es) X.env = (false, eval e X.env) :: starEach es X.env := by rfl) (hpl : (backTo pos (starEach es X.env)).any (·.1) = false := by rfl) :
    PE X (.Call (.Name x p) (e :: es) [] pos) (tMake C sp [] (fun _ _ _ => False) t) := by
  obtain ⟨f, fd, M, hb, F⟩ := G
  exact pe_make M F (hr.mono hj) hg hm hb .nil (fun _ _ _ _ _ _ _ h => h.elim) ha hdb he hpl
theorem pgI {i : Int} (h : ∃ t, X.mg x = some (.int i t)) (hg : Gl X x := by rfl) (hd : (x == ("__debug__" : Str)) = false := by decide) : PE X (.Name x p) (tC (.int i)) := by
  obtain ⟨t, h⟩ := h
  exact pe_glob hg h ⟨t, rfl⟩ hd
theorem pgS {z : Str} (h : ∃ t, X.mg x = some (.str z t)) (hg : Gl X x := by rfl) (hd : (x == ("__debug__" : Str)) = false := by decide) : PE X (.Name x p) (tC (.str z)) := by
  obtain ⟨t, h⟩ := h
  exact pe_glob hg h ⟨t, rfl⟩ hd
end
end Eyes

set_option Elab.async false
set_option linter.all false
set_option maxRecDepth 100000
set_option maxHeartbeats 4000000
/-! Displays with a dict in them: {**a, k: v} and {**a, **b}. -/
namespace Mrg
open PySem
open Sem (wp)
section
variable {prog : Program} {w : World} {K : Type} [DecidableEq K] {knd : KeyKind prog w K} {A : Around} {E : Value → Shared → Prop} {s : Shared}
theorem put_pairs {d : Addr} {kvs : List (K × Value)} {k : K} {key v : Value} {Q : Unit → Shared → Prop} (hkey : knd.is k key = true) (hm : s.heap.DictOf knd d kvs)
    (hQ : ∀ h', h'.DictOf knd d (stored kvs k v) → Heap.SameBut d s.heap h' → Q () { s with heap := h' }) (hsz : kvs.length ≤ sizeLine) :
    wpAny (model prog w) A (dictPut d (knd.hash k) key v) Q E s := by
  obtain ⟨o, es, ep, ho, hc, hd, hk, hp, hn⟩ := hm
  have hes : es.size ≤ sizeLine := by
    have e1 := hp.length
    have e2 : es.toList.length = es.size := by simp
    omega
  have hidx : (es.findIdx? fun e => knd.is k e.key) = kvs.findIdx? fun kv => decide (kv.1 = k) := by
    rw [← hp.findIdx k]
    obtain ⟨l⟩ := es
    simp
  unfold dictPut
  refine wpAny_bind (wpAny_dictFind_of hkey ho hd hk ?_)
  cases hi : es.findIdx? fun e => knd.is k e.key with
  | some i =>
    have hl : (es.toList.findIdx? fun e => knd.is k e.key) = some i := by
      rw [← hi]
      obtain ⟨l⟩ := es
      simp
    refine wpAny_updateDict ho hd (hQ _ ⟨_, _, ep, Heap.get?_update_self _ ho (Obj.isFreed_of_dict (Obj.data_mapDict hd _)), hc.mapDict _, Obj.data_mapDict hd _, hk.modify _ _, ?_, ?_⟩ (Heap.SameBut.update ..))
    · rw [stored, if_pos (any_of_findIdx_some (hidx ▸ hi))]
      have z := hp.modify hn hl v
      obtain ⟨l⟩ := es
      simpa using z
    · rw [stored, if_pos (any_of_findIdx_some (hidx ▸ hi)), keys_map_store]
      exact hn
  | none =>
    have hnot : k ∉ kvs.map (·.1) := not_mem_of_findIdx_none (hidx ▸ hi)
    have hany : ¬ (kvs.any fun kv => decide (kv.1 = k)) = true := fun z => by
      obtain ⟨kv, h1, h2⟩ := List.any_eq_true.mp z
      exact hnot (List.mem_map.mpr ⟨kv, h1, of_decide_eq_true h2⟩)
    refine wpAny_updateDictKeys (hz := hes) ho hd (hQ _ ⟨_, _, ep + 1, Heap.get?_update_self _ ho (Obj.isFreed_of_dict (Obj.data_mapDictKeys hd _)), hc.mapDictKeys _, Obj.data_mapDictKeys hd _, hk.push hkey _, ?_, ?_⟩ (Heap.SameBut.update ..))
    · rw [stored, if_neg hany]
      have z := hp.append hkey (knd.hash k) v
      obtain ⟨l⟩ := es
      simpa using z
    · rw [stored, if_neg hany, List.map_append, List.nodup_append]
      refine ⟨hn, by simp, fun a ha b hb z => ?_⟩
      simp only [List.map_cons, List.map_nil, List.mem_singleton] at hb
      exact hnot ((z.trans hb) ▸ ha)
theorem merge {d o : Addr} {kvs more : List (K × Value)} {Q : Unit → Shared → Prop} (hdo : d ≠ o) (hoS : (o == sysModules) = false) (hd : s.heap.DictOf knd d kvs) (ho : s.heap.DictOf knd o more)
    (hQ : ∀ h', h'.DictOf knd d (merged kvs more) → Heap.SameBut d s.heap h' → Q () { s with heap := h' }) (hsz : kvs.length + more.length ≤ sizeLine) :
    wpAny (model prog w) A (mergeMapping d (.ref o) false) Q E s := by
  obtain ⟨od, esd, epd, hod, hcd, hdd, hkd, hpd, hnd⟩ := id hd
  obtain ⟨oo, eso, epo, hoo, hco, hdo', hko, hpo, hno⟩ := id ho
  have hlen : more.length = eso.size := by
    rw [← hpo.length]
    simp
  have ent : ∀ {h' : Heap} {Q : Array DictEntry → Shared → Prop} {E : Value → Shared → Prop} {g}, h'.get? o = some oo → Q eso g → g.heap = h' → wpAny (model prog w) A (dictEntries o) Q E g := fun e q r => by
    subst r
    exact wpAny_dictEntries e hdo' q
  unfold mergeMapping
  refine wpAny_bind (wpAny_isInstance ho.typeIs isSubtype_dict_dict ?_)
  rw [if_pos rfl]
  refine wpAny_bind (wpAny_specialOf ho.typeIs F.slot_dict_iter.lookup (wpAny_bind (wpAny_pure ?_)))
  simp only [beq_self_eq_true]
  rw [if_neg (by rw [hoS]; exact Bool.false_ne_true)]
  have loop : wpAny (model prog w) A (do
      let l ← dictEntries o
      let epoch ← dictEpoch o
      forIn (List.range l.size) PUnit.unit fun i (_ : PUnit) => (do
          let l' ← dictEntries o
          match l'[i]? with
            | some e => do
              holding [e.key, e.val] (dictPut d e.hash e.key e.val)
              let ep' ← dictEpoch o
              if (ep' != epoch) = true then do
                  (unsupported "dict.changed-during-merge" : Sem PUnit)
                  pure (ForInStep.yield PUnit.unit)
                else pure (ForInStep.yield PUnit.unit)
            | _ => do
              (unsupported "dict.changed-during-merge" : Sem PUnit)
              pure (ForInStep.yield PUnit.unit) : Sem (ForInStep PUnit))
      pure ()) Q E s := by
    refine wpAny_bind (wpAny_dictEntries hoo hdo' ?_)
    refine wpAny_bind (wpAny_dictEpoch hoo hdo' ?_)
    refine wpAny_bind ?_
    rw [List.range_eq_range']
    refine wpAny_forIn_list _
      (fun rest _ s' => ∃ h' i, s' = { s with heap := h' } ∧ rest = List.range' i (eso.size - i) ∧ i ≤ eso.size ∧ h'.DictOf knd d (merged kvs (more.take i)) ∧ h'.get? o = some oo ∧ Heap.SameBut d s.heap h')
      _ ?_ ?_ _ _ ⟨s.heap, 0, rfl, by simp, Nat.zero_le _, by simpa [merged] using hd, hoo, Heap.SameBut.refl _ _⟩
    · rintro x rest b s' ⟨h', i, rfl, hr, hi, hd', hoo', hs'⟩
      have hlt : i < eso.size := by
        rcases Nat.lt_or_ge i eso.size with h | h
        · exact h
        · rw [Nat.sub_eq_zero_of_le h] at hr
          cases hr
      have e1 : eso.size - i = (eso.size - (i + 1)) + 1 := by omega
      rw [e1, List.range'_succ] at hr
      injection hr with hx hrest
      subst hx
      refine wpAny_bind (wpAny_dictEntries hoo' hdo' ?_)
      rw [Array.getElem?_eq_getElem hlt]
      obtain ⟨⟨k, v⟩, hkv⟩ : ∃ kv, more[x]? = some kv := ⟨more[x]'(by rw [hlen]; exact hlt), List.getElem?_eq_getElem _⟩
      obtain ⟨hkey, hval⟩ := hpo.get? (e := eso[x]) (by simp [hlt]) hkv
      obtain ⟨k', hkey', hhash⟩ := hko eso[x] (Array.getElem_mem hlt)
      obtain rfl : k' = k := knd.inj _ _ _ hkey' hkey
      dsimp only
      rw [hhash, hval]
      have hmx : (merged kvs (more.take x)).length ≤ sizeLine := by
        have e1 := merged_length_le kvs (more.take x)
        have e2 : (more.take x).length ≤ more.length := by rw [List.length_take]; omega
        omega
      refine wpAny_bind (wpAny_holding (put_pairs hkey hd' (fun h'' hd'' hs'' => ?_) hmx))
      have hoo'' : h''.get? o = some oo := (hs''.2 o (Ne.symm hdo)).trans hoo'
      refine wpAny_bind (wpAny_dictEpoch hoo'' hdo' ?_)
      rw [if_neg (by simp)]
      exact wpAny_pure ⟨h'', x + 1, rfl, hrest, hlt, by rw [merged_take_succ kvs more x (k', v) hkv]; exact hd'', hoo'', hs'.trans hs''⟩
    · rintro b s' ⟨h', i, rfl, hr, hi, hd', hoo', hs'⟩
      have hin : i = eso.size := by
        rcases Nat.lt_or_ge i eso.size with h | h
        · have e : eso.size - i = (eso.size - (i + 1)) + 1 := by omega
          rw [e, List.range'_succ] at hr
          cases hr
        · exact Nat.le_antisymm hi h
      refine wpAny_pure (hQ h' ?_ hs')
      rw [hin, ← hlen, List.take_length] at hd'
      exact hd'
  refine wpAny_bind (wpAny_dictEntries hod hdd ?_)
  split
  · refine wpAny_bind (wpAny_dictEntries hoo hdo' ?_)
    have quiet : (forIn eso PUnit.unit fun e (_ : PUnit) => (match e.key with
        | .ref _ => do
          let q ← specialOf e.key (Str.ofString "__eq__")
          if (q != some (Value.builtin "object.__eq__")) = true then
            if (Array.filter (fun x => x.hash == e.hash) eso).size > 1 then (do (unsupported "dict.merge-into-an-empty-dict:keys-of-equal-hash" : Sem PUnit); pure (ForInStep.yield PUnit.unit)) else pure (ForInStep.yield PUnit.unit)
          else pure (ForInStep.yield PUnit.unit)
        | _ => pure (ForInStep.yield PUnit.unit) : Sem (ForInStep PUnit))) = pure PUnit.unit := by
      rw [← Array.forIn_toList]
      refine forIn_yield_id _ fun e he c => ?_
      obtain ⟨k, hkey, _⟩ := hko e (Array.mem_toList_iff.mp he)
      have hb := knd.byValue k _ hkey
      cases hq : e.key with
      | ref a => rw [hq] at hb; exact absurd hb Bool.false_ne_true
      | _ => rfl
    exact wpAny_bind (wpAny_of_eq quiet loop)
  · exact loop
end
end Mrg

set_option Elab.async false
set_option linter.all false
set_option maxRecDepth 100000
set_option maxHeartbeats 4000000
/-! The rules for {**a, k: v} and {**a, **b}; static methods off a class. -/
namespace Eyes
open PySem PySem.Spec PyProof.Rows L2
def tMrg2 (ta tb : TE) : TE := fun σ H Q => ∀ p, H p = none → ta σ (upd H p (.dK [])) fun x H1 => H1 p = some (.dK []) ∧ ∃ (a : Addr) (kvs : List (Key × V)), x = .ref a ∧ p ≠ a ∧ Rd H1 a (.dK kvs) ∧ kvs.length < 1000000 ∧
  tb σ (upd H1 p (.dK (mergeK [] kvs))) fun y H2 => H2 p = some (.dK (mergeK [] kvs)) ∧ ∃ (b : Addr) (more : List (Key × V)), y = .ref b ∧ p ≠ b ∧ Rd H2 b (.dK more) ∧ more.length < 1000000 ∧
  Q (.ref p) (upd H2 p (.dK (mergeK (mergeK [] kvs) more)))
def tMrg1 (ta tk tv : TE) : TE := fun σ H Q => ∀ p, H p = none → ta σ (upd H p (.dK [])) fun x H1 => H1 p = some (.dK []) ∧ ∃ (a : Addr) (kvs : List (Key × V)), x = .ref a ∧ p ≠ a ∧ Rd H1 a (.dK kvs) ∧ kvs.length < 1000000 ∧
  ∀ p2, p2 ≠ p → H1 p2 = none → tk σ (upd (upd H1 p (.dK (mergeK [] kvs))) p2 (.dK [])) fun y H2 => tv σ H2 fun z H3 => H3 p2 = some (.dK []) ∧ H3 p = some (.dK (mergeK [] kvs)) ∧ ∃ k : Key, y = kV k ∧
  Q (.ref p) (upd (upd H3 p2 (.dK [(k, z)])) p (.dK (putK (mergeK [] kvs) k z)))
section
variable {X : Cx} {pins : List (Addr × Obj)} {σ : L2.St} {H : Hp} {s : Shared} {A : Around} {E : Value → Shared → Prop}
theorem mrg_go {p a : Addr} {acc kvs : List (Key × V)} {Q : Unit → Shared → Prop} (I : Inv X pins σ H s) (hp : H p = some (.dK acc)) (ha : Rd H a (.dK kvs)) (hpa : p ≠ a) (h1 : acc.length < 3000000) (h2 : kvs.length < 1000000)
    (h : ∀ s', Inv X pins σ (upd H p (.dK (mergeK acc kvs))) s' → Q () s') : wpAny (model X.prog X.w) A (mergeMapping p (.ref a) false) Q E s := by
  obtain ⟨z1, d1, vs1, r1, dd1⟩ := dk_of I.hok hp
  obtain ⟨z2, d2, vs2, r2, dd2⟩ := dk_rd I.hok ha
  have hz : acc.length + kvs.length ≤ sizeLine := by
    rw [sizeLine_eq]
    omega
  refine Mrg.merge hpa d2 dd1 dd2 (fun h' dd' hs => h _ ?_) (by rw [← r1.length, ← r2.length]; exact hz)
  have he : ∃ q, h'.get? p = some q := let ⟨q, _, _, hq, _⟩ := dd'; ⟨q, hq⟩
  have hl := length_mergeK kvs acc
  exact d_write I (by rw [hp]; exact True.intro) hs he (dk_new (by omega) d1 (r2.merge r1) dd')
end
section
variable {X : Cx} {pos : Pos} {a b k v : Expr} {ta tb tk tv : TE}
theorem evm {v : Expr} {tv : TE} (hv : PE X v tv) {pins : List (Addr × Obj)} {s : Shared} {σ : L2.St} {H : Hp} {Q : VK} {R : Value → Shared → Prop} (I : Inv X pins σ H s) (q : tv σ H Q) (hR : ∀ u s', (∃ x H', Inv X pins σ H' s' ∧ RelV x u ∧ Q x H') → R u s') :
    wpAny (model X.prog X.w) X.A (do let x ← eval v X.env; standAt pos; pure x) R X.xe s :=
  wpAny_bind (thn (hv.run pins s σ H Q I q) fun u s1 ⟨x, H1, I1, rx, q1⟩ => wpAny_bind (wpAny_standAt (wpAny_pure (hR u s1 ⟨x, H1, I1, rx, q1⟩))))
theorem pe_mrg1 (ha : PE X a ta) (hk : PE X k tk) (hv : PE X v tv) : PE X (.Dict [none, some k] [a, v] pos) (tMrg1 ta tk tv) := by
  refine ⟨fun pins s σ H Q I q => ?_⟩
  rw [arm_eval_Dict]
  refine wpAny_bind (wpAny_standAt ?_)
  show wpAny _ _ (dictDisplay [(none, (do let x ← eval a X.env; standAt pos; pure x)), (some (eval k X.env), (do let x ← eval v X.env; standAt pos; pure x))]) _ _ _
  unfold dictDisplay
  simp only [List.forIn_cons, List.forIn_nil, pure_bind, bind_assoc, List.isEmpty_nil, if_true]
  have hn := I.hok.fresh (Nat.le_refl s.heap.objs.size)
  refine wpAny_bind (wpAny_alloc ?_)
  have I1 := I.laid (a := s.heap.objs.size) (o := .dK []) (h' := s.heap.push { cls := .type "dict", data := .dict #[] }) (t' := s.toks) (fun _ _ q => Heap.get?_push_of_some _ q) (Nat.le_refl _) (dk_empty s.heap I.big)
  generalize hpe : s.heap.objs.size = p at *
  refine wpAny_bind (wpAny_holding (evm ha I1 (q p hn) fun u s2 ⟨x, H1, I2, rx, e1, a1, kvs, ex, hpa, hrd, hl, q2⟩ => ?_))
  subst ex
  obtain rfl : u = Value.ref a1 := rx
  refine wpAny_bind (wpAny_onRaise (wpAny_tryCatch (wpAny_onRaise (wpAny_holding (mrg_go I2 e1 hrd hpa (by decide) hl fun s3 I3 => ?_)))))
  have hm0 : (mergeK [] kvs).length ≤ kvs.length := by
    have := length_mergeK kvs []
    simpa using this
  rw [if_neg (by simp)]
  refine wpAny_bind (wpAny_pure ?_)
  refine wpAny_bind ?_
  refine wpAny_pure ?_
  refine wpAny_bind ?_
  rw [if_neg (by simp)]
  refine wpAny_bind (wpAny_holding (wpAny_subDict (knd := mixKind X.prog X.w) (by simp) ?_))
  have hn2 := I3.hok.fresh (Nat.le_refl s3.heap.objs.size)
  have I4 := I3.laid (a := s3.heap.objs.size) (o := .dK []) (h' := s3.heap.push { cls := .type "dict", data := .dict #[] }) (t' := s3.toks) (fun _ _ q => Heap.get?_push_of_some _ q) (Nat.le_refl _) (dk_empty s3.heap I3.big)
  generalize hpe2 : s3.heap.objs.size = p2 at *
  have hne : p2 ≠ p := fun z => by
    rw [z, upd_same] at hn2
    cases hn2
  have hn3 : H1 p2 = none := by rwa [upd_ne hne] at hn2
  refine evalPairs_cons (thn (hk.run pins _ σ _ _ I4 (q2 p2 hne hn3)) fun u s5 ⟨y, H2, I5, ry, q3⟩ => evm hv I5 q3 fun u2 s6 ⟨z, H3, I6, rz, e3, e4, key, ey, q4⟩ => evalPairs_nil ?_)
  subst ey
  obtain ⟨z1, d1, vs1, r1, dd1⟩ := dk_of I6.hok e3
  cases r1
  refine ⟨[(key, u2)], ⟨kV_is ry, rfl, True.intro⟩, dd1, fun h' dd' hs => ?_⟩
  have he : ∃ q, h'.get? p2 = some q := let ⟨q, _, _, hq, _⟩ := dd'; ⟨q, hq⟩
  have I7 := d_write (t' := s6.toks + 1) I6 (by rw [e3]; exact True.intro) hs he (dk_new (H' := upd H3 p2 (.dK [(key, z)])) (by rw [sizeLine_eq, List.length_singleton]; decide) d1 (kvs := [(key, z)]) (vs := [(key, u2)]) (.cons ⟨rfl, rz⟩ .nil) dd')
  have ep : upd H3 p2 (.dK [(key, z)]) p = some (.dK (mergeK [] kvs)) := (upd_ne (Ne.symm hne)).trans e4
  refine wpAny_bind (wpAny_onRaise (wpAny_holding (mrg_go I7 ep (.inl upd_same) (Ne.symm hne) (by omega) (by rw [List.length_singleton]; decide) fun s8 I8 => ?_)))
  exact wpAny_pure (wpAny_pure ⟨.ref p, _, I8, rfl, q4⟩)
end
structure CSta (K : PySem.W.Frag) (C : Addr) (mc : Value) (m : Str) (p g : Addr) : Prop where
  at_ : PySem.W.findCls K (.ref C) mc m = some (.get (.builtin "staticmethod.__get__") (.ref p) .none (.ref C))
  rc : ∃ rest, PySem.W.recIn K p "staticmethod" = some (.ref g :: rest)
  kp : PySem.W.keepIn K (.ref g) = true
def StaAt (K : PySem.W.Frag) (C : Addr) (m qual : Str) (st : Stmt) (ps : List Str) : Prop :=
  ∃ (mc : Value) (p f : Addr) (fd : FuncData), ClX.CRead K C mc ∧ CSta K C mc m p f ∧ Fun K m qual st f fd ∧ Binds K fd ps []
def PrSta (P : Program) (w : World) (K : PySem.W.Frag) (mg : Str → Option Value) (base : Heap) (C : Addr) (m : Str) (ps : List Str) (k : Nat) (sp : Sp) : Prop :=
  ∃ (mc : Value) (p f : Addr) (fd : FuncData), ClX.CRead K C mc ∧ CSta K C mc m p f ∧ Binds K fd ps [] ∧ FnOk P w K mg base CX0 k f fd ps sp
theorem staAt_mk {K : PySem.W.Frag} {C : Addr} {m qual : Str} {st : Stmt} {ps : List Str} {f p : Addr} {rs : List Value} {oc : Value} {od an : Option Addr} {osl : Array (Option Value)} {kV doc pm cdv ct : Value}
    (r : PySem.W.readsIn K C (.type "type") = true) (ga : PySem.W.specialIn K (.ref C) "__getattribute__" = some (some (.builtin "type.__getattribute__")))
    (a : PySem.W.findCls K (.ref C) (.type "type") m = some (.get (.builtin "staticmethod.__get__") (.ref p) .none (.ref C))) (rc : PySem.W.recIn K p "staticmethod" = some (.ref f :: rs))
    (l : K.lookup f = some ⟨oc, od, .func (PySem.W.fnOf m qual (defArgs st) (defBody st) (defScope st) .none kV doc pm an cdv ct), osl⟩)
    (c : PySem.W.codeIn K cdv qual = true) (k : PySem.W.keepIn K (.ref f) = true) (hb : BindH m qual st ps) : StaAt K C m qual st ps :=
  ⟨.type "type", p, f, _, ⟨r, ga⟩, ⟨a, ⟨rs, rc⟩, k⟩, fun_mk l c k, (fun_mk l c k).binds hb⟩
section
variable {P : Program} {w : World} {K : PySem.W.Frag} {mg : Str → Option Value} {base : Heap}
theorem prsta_mk {C : Addr} {m qual : Str} {st : Stmt} {N ps : List Str} {k : Nat} {sp : Sp} (A : StaAt K C m qual st ps) (S : FnScope N ps (defScope st)) (len : ∀ vs H Q E, sp vs H Q E → vs.length = ps.length)
    (hbody : ∀ (f : Addr) (cdv : Value) (A : Around) (outer : List Env) (s : Shared) (H : Hp) (vs : List V) (Q : VK) (E : XK), Room k (A.deeper (envOfC qual (defScope st) s.heap.objs.size f cdv)) → sp vs H Q E →
      ∃ t, PSs (cxOf CX0 P w K mg base N qual (defScope st) f cdv A outer s H E).nox (defBody st) t ∧ t { nx := fun _ H' => Q .non H', rt := Q } (start N vs) H) : PrSta P w K mg base C m ps (k + 1) sp := by
  obtain ⟨mc, p, f, fd, r, a, F, hb⟩ := A
  exact ⟨mc, p, f, fd, r, a, hb, F.ok S len fun cdv A outer s H vs Q E hr h => hbody f cdv A outer s H vs Q E hr h⟩
end
def tSta (C : Addr) (sp : Sp) (ta : TE) (t : TA) : TE := fun σ H Q => ta σ H fun x H1 => x = .ref C ∧ t σ H1 fun vs H2 => sp vs H2 Q (fun _ _ _ => False)
section
variable {X : Cx} {C : Addr} {j k : Nat} {ps : List Str} {sp : Sp} {m : Str} {o e : Expr} {es : List Expr} {apos pos : Pos} {ta : TE} {t : TA}
theorem psta {pl : Sem Bool} (G : PrSta X.prog X.w X.K X.mg X.base C m ps j sp) (hr : Room k X.A) (he : PE X o ta) (ha : PA X (e :: es) t) (hj : j ≤ k := by first | decide | omega)
    (hst : starEach (e :: es) X.env = (false, eval e X.env) :: starEach es X.env := by rfl) (hpl : (backTo pos (starEach es X.env)).any (·.1) = false := by rfl)
    (ht : eval (.Call (.Attribute o m apos) (e :: es) [] pos) X.env = (do
      let ov ← eval o X.env
      standAt apos.atName
      let (f, first) ← holding [ov] (getMethod ov m pl)
      callWith pos f first (backTo pos (starEach (e :: es) X.env)) (backToKw pos (keywordEach [] X.env))) := by rfl) :
    PE X (.Call (.Attribute o m apos) (e :: es) [] pos) (tSta C sp ta t) := by
  obtain ⟨mc, p, f, fd, r, a, hb, F⟩ := G
  refine ⟨fun pins s σ H Q I h => ?_⟩
  refine PySem.W.methodCall_KW (pl := pl) (thn (he.run pins s σ H _ I h) fun u s1 ⟨x, H1, I1, rx, ex, q⟩ => ?_) ht
  subst ex
  obtain rfl : u = Value.ref C := rx
  obtain ⟨rest, hp⟩ := a.rc
  refine PySem.W.method_cls I1.kIn r.ga (PySem.W.cls_bind I1.kIn r.rd a.at_ (wpAny_call (PySem.W.sm_get (s := { s1 with toks := s1.toks + 1 }) I1.kIn hp (PySem.W.handed_on rfl ?_))))
  have I2 : Inv X pins σ H1 { s1 with toks := s1.toks + 1 } := I1.tok _
  refine PySem.W.callWith_K (first := []) (h₀ := X.base) I.ok.mod.kin a.kp (thn (ha.run pos pins _ σ H1 _ I2 q) fun us s2 ⟨vs, H2, I3, rv, q2⟩ => ⟨I3.kIn, ?_⟩) hst hpl
  have q3 : sp (vs ++ []) H2 Q (fun _ _ _ => False) := by rwa [List.append_nil]
  exact run_fn (us := us) (vs := vs) F (hr.mono hj) hb .nil (fun _ _ _ _ _ _ _ h => h.elim) I3 rv q3
end
end Eyes

set_option Elab.async false
set_option linter.all false
set_option maxRecDepth 100000
set_option maxHeartbeats 4000000
/-! Rules of my own: operators, str() and f-strings of own instances; list(d.values()). -/
namespace Eyes
open PySem PySem.Spec PyProof.Rows L2
section
variable {X : Cx} {CX : CXT} {k : Nat} {f : Addr} {fd : FuncData} {ps : List Str} {sp : Sp} {E : XK}
theorem run_at (F : FnOk X.prog X.w X.K X.mg X.base CX k f fd ps sp) (hb : Binds X.K fd ps []) (hx : Passes CX X E) {A : Around} (hr : Room k A) (hfr : A.frames = X.A.frames) {pins : List (Addr × Obj)} {σ : L2.St} {H : Hp} {s : Shared} {vs : List V} {us : List Value} {Q : VK}
    {R : Value → Shared → Prop} (I : Inv X pins σ H s) (r : Vals vs us) (h : sp vs H Q E) (hq : ∀ v u s' H', Inv X pins σ H' s' → RelV v u → Q v H' → R u s') : wpAny (model X.prog X.w) A (call (.ref f) us) R X.xe s := by
  have e0 : Env0 X.prog X.w X.K X.mg X.base A X.stack s H := by
    have e := I.env0
    exact ⟨by rw [hfr]; exact e.frames, e.mod, e.bs, e.bsz, e.funs, e.frf, e.hok, e.bare⟩
  have hl := F.len _ _ _ _ h
  have hlu : us.length = ps.length := r.length.symm.trans hl
  refine wpAny_call (codeAny_mono (F.run A X.stack s H ⟨us, []⟩ us vs Q E hr e0 (by
    have := hb s us I.kIn (by simpa using hlu)
    simpa using this) r h) fun r s' hq' => ?_)
  cases r with
  | error e => exact hx pins σ H s e s' I hq'
  | ok fl =>
    cases fl with
    | ret w =>
      obtain ⟨z, H', I', rz, ez⟩ := I.after hq'
      exact hq z w s' H' I' rz ez
    | next => exact False.elim hq'
    | brk => exact False.elim hq'
    | cont => exact False.elim hq'
end
theorem cmpBack_of {v : V} {u : Value} {s : Shared} {Q : Value → Shared → Prop} (r : RelV v u) (q : Q u s) : PySem.W.CmpBack Q u s := by
  cases v with
  | non => cases (show u = Value.none from r); exact q
  | bl b => cases (show u = Value.bool b from r); exact q
  | int i => obtain ⟨t, rfl⟩ := r; exact q
  | str i => obtain ⟨t, rfl⟩ := r; exact q
  | byt i => obtain ⟨t, rfl⟩ := r; exact q
  | flt i => obtain ⟨t, rfl⟩ := r; exact q
  | ref a => cases (show u = Value.ref a from r); exact q
  | ty n => cases (show u = Value.type n from r); exact q
def rOwnB (C : Addr) (sp : Sp) : R2 := fun x y H Q => ∃ a b dx dy fs gs, x = .ref a ∧ y = .ref b ∧ H a = some (.ins C dx fs) ∧ H b = some (.ins C dy gs) ∧ sp [.ref a, .ref b] H Q (fun _ _ _ => False)
def rOwnStr (C : Addr) (sp : Sp) : List V → Hp → VK → Prop := fun xs H Q => ∃ a dx fs, xs = [.ref a] ∧ H a = some (.ins C dx fs) ∧ sp [.ref a] H (fun v H' => ∃ z, v = .str z ∧ Q v H') (fun _ _ _ => False)
section
variable {X : Cx} {C : Addr} {j k : Nat} {ps : List Str} {sp : Sp} {nm : Str}
theorem call_strOwn (G : PrM X.prog X.w X.K X.mg X.base C "__str__" ps j sp) (hr : Room k X.A) (hj : j + 2 ≤ k := by first | decide | omega) : CallR X (.type "str") (rOwnStr C sp) := by
  intro pins s σ H xs us Q I r h
  obtain ⟨f, fd, M, hb, F⟩ := G
  obtain ⟨a, dx, fs, rfl, ha, q⟩ := h
  obtain ⟨u, rfl, ru⟩ := vals1 r
  cases ru
  obtain ⟨mA, J, _⟩ := ins_get I.hok ha
  obtain ⟨od, J, _⟩ := J.look
  have hr2 : Room j X.A.in1.in1 := (hr.mono hj).in1.in1
  refine PySem.W.kso_call hr2.units0 I.kIn J M.at_ M.fn ?_
  refine run_at F hb (fun _ _ _ _ _ _ _ h => h.elim) hr2 rfl I (vs := [.ref a]) (.cons rfl .nil) q fun v u s' H' I' rv qv => ?_
  obtain ⟨z, rfl, qv⟩ := qv
  obtain ⟨t, rfl⟩ := rv
  exact ⟨.str z, H', I', ⟨t, rfl⟩, qv⟩
end
section
variable {X : Cx} {C : Addr} {j k : Nat} {ps : List Str} {sp : Sp} {m : Str} {o e : Expr} {es : List Expr} {apos pos : Pos} {ta : TE} {t : TA}
theorem pmeth {pl : Sem Bool} (c : Cls X.K C) (G : PrM X.prog X.w X.K X.mg X.base C m ps j sp) (hr : Room k X.A) (he : PE X o ta) (ha : PA X (e :: es) t) (hj : j ≤ k := by first | decide | omega)
    (hst : starEach (e :: es) X.env = (false, eval e X.env) :: starEach es X.env := by rfl) (hpl : (backTo pos (starEach es X.env)).any (·.1) = false := by rfl)
    (ht : eval (.Call (.Attribute o m apos) (e :: es) [] pos) X.env = (do
      let ov ← eval o X.env
      standAt apos.atName
      let (f, first) ← holding [ov] (getMethod ov m pl)
      callWith pos f first (backTo pos (starEach (e :: es) X.env)) (backToKw pos (keywordEach [] X.env))) := by rfl) :
    PE X (.Call (.Attribute o m apos) (e :: es) [] pos) (tMeth C m sp [] (fun _ _ _ => False) ta t) := by
  obtain ⟨f, fd, M, hb, F⟩ := G
  exact pe_meth he c M F (hr.mono hj) hb .nil (fun _ _ _ _ _ _ _ h => h.elim) ha hst hpl ht
theorem pmeth0 {pl : Sem Bool} (c : Cls X.K C) (G : PrM X.prog X.w X.K X.mg X.base C m ps j sp) (hr : Room k X.A) (he : PE X o ta) (hj : j ≤ k := by first | decide | omega)
    (ht : eval (.Call (.Attribute o m apos) [] [] pos) X.env = (do
      let ov ← eval o X.env
      standAt apos.atName
      let (f, first) ← holding [ov] (getMethod ov m pl)
      callWith pos f first (backTo pos (starEach [] X.env)) (backToKw pos (keywordEach [] X.env))) := by rfl) :
    PE X (.Call (.Attribute o m apos) [] [] pos) (tMeth C m sp [] (fun _ _ _ => False) ta tNil) := by
  obtain ⟨f, fd, M, hb, F⟩ := G
  exact pe_meth0 he c M F (hr.mono hj) hb .nil (fun _ _ _ _ _ _ _ h => h.elim) ht
end
def tListVals (te : TE) : TE := fun σ H Q => te σ H fun x H1 => ∃ (d : Addr) (kvs : List (Key × V)), x = .ref d ∧ H1 d = some (.dK kvs) ∧ ∀ l, H1 l = none → Q (.ref l) (upd H1 l (.lst (kvs.map (·.2))))
section
variable {X : Cx} {e : Expr} {te : TE} {p apos cpos pos : Pos}
end
theorem pe_fldK {X : Cx} {K : PySem.W.Frag} {e : Expr} {ta : TE} {f : Str} {pos : Pos} (hK : X.K = K) (he : PE X e ta) (hb : attributeBase e f X.env (eval e X.env) = eval e X.env) : PE X (.Attribute e f pos) (tFld K ta f) := by
  subst hK
  exact pe_fld he hb
theorem u65 {A : Around} {k : Nat} (hr : Room k A) : A.units + 65 < cLine := by
  have := hr.un
  omega
section
variable {X : Cx} {K : PySem.W.Frag}
theorem ix_listK (hK : X.K = K) : IxR X (rIxL K) := by
  subst hK
  exact ix_list
theorem ix_tupK (hK : X.K = K) : IxR X (rIxT K) := by
  subst hK
  exact ix_tup
theorem ix_seqK (hK : X.K = K) : IxR X (rIx K) := by
  subst hK
  exact ix_seq
end
section
variable {X : Cx} {K : PySem.W.Frag}
theorem op_in_seqK (hK : X.K = K) : OpR X (compareOp .In) (rIn K false) := by
  subst hK
  exact op_in_seq
theorem op_notIn_seqK (hK : X.K = K) : OpR X (compareOp .NotIn) (rIn K true) := by
  subst hK
  exact op_notIn_seq
end
end Eyes

set_option Elab.async false
set_option linter.all false
set_option maxRecDepth 100000
set_option maxHeartbeats 4000000
/-! ==, repr() and bool() of own instances; either of two rules. -/
namespace Eyes
open PySem PySem.Spec PyProof.Rows L2
def EqTo (K : PySem.W.Frag) (C : Addr) (H : Hp) (y : V) : Prop :=
  (∃ z, y = .str z ∧ PySem.W.notFirst K C (.type "str") = true) ∨ (∃ b zs, y = .ref b ∧ H b = some (.lst zs) ∧ PySem.W.notFirst K C (.type "list") = true) ∨ ∃ b dy gs, y = .ref b ∧ H b = some (.ins C dy gs)
def rEqOwn (K : PySem.W.Frag) (C : Addr) (sp : Sp) : R2 := fun x y H Q => ∃ a dx fs, x = .ref a ∧ H a = some (.ins C dx fs) ∧ EqTo K C H y ∧ sp [.ref a, y] H Q (fun _ _ _ => False)
def rReprOwn (C : Addr) (sp : Sp) : List V → Hp → VK → Prop := fun xs H Q => ∃ a dx fs, xs = [.ref a] ∧ H a = some (.ins C dx fs) ∧ sp [.ref a] H (fun v H' => ∃ z, v = .str z ∧ Q v H') (fun _ _ _ => False)
def rBoolOwn (K : PySem.W.Frag) (C : Addr) : List V → Hp → VK → Prop := fun xs H Q => ∃ a dx fs, xs = [.ref a] ∧ H a = some (.ins C dx fs) ∧ PySem.W.findIn K (.ref C) "__bool__" = some none ∧ PySem.W.findIn K (.ref C) "__len__" = some none ∧ Q (.bl true) H
section
variable {X : Cx} {C : Addr} {j k : Nat} {ps : List Str} {sp : Sp}
theorem op_eqOwn (G : PrM X.prog X.w X.K X.mg X.base C "__eq__" ps j sp) (hr : Room k X.A) (hj : j ≤ k := by first | decide | omega) : OpR X (compareOp .Eq) (rEqOwn X.K C sp) := by
  intro pins s σ H x y v u Q I rx ry h
  obtain ⟨f, fd, M, hb, F⟩ := G
  obtain ⟨a, dx, fs, rfl, ha, hy, q⟩ := h
  cases rx
  obtain ⟨mA, J, _⟩ := ins_get I.hok ha
  obtain ⟨od, J, _⟩ := J.look
  obtain ⟨m, hF⟩ := I.fr
  have hrj := hr.mono hj
  have go : ∀ {tb : Value}, PySem.W.Looks (model X.prog X.w) s.heap (typeOf u) tb → PySem.W.notFirst X.K C tb = true → wpAny (model X.prog X.w) X.A (compareOp .Eq (.ref a) u) (EP X pins σ Q) X.xe s := fun {tb} L hn => by
    refine PySem.W.cmp_ofEq (PySem.W.cmp_K hrj.units0 hF I.ok.mod.kin J L hn M.at_ M.fn ?_)
    exact run_at F hb (fun _ _ _ _ _ _ _ h => h.elim) hrj rfl I (vs := [.ref a, y]) (.cons rfl (.cons ry .nil)) q fun v u s' H' I' rv qv => cmpBack_of rv ⟨v, H', I', rv, qv⟩
  rcases hy with ⟨z, rfl, hn⟩ | ⟨b, zs, rfl, hz, hn⟩ | ⟨b, dy, gs, rfl, hz⟩
  · obtain ⟨t, rfl⟩ := ry
    exact go (PySem.W.Looks.of_pure rfl) hn
  · cases ry
    obtain ⟨_, its, n, _, ho⟩ := I.hok b _ hz
    exact go (fun A Q E s k q => wpAny_typeOf_ref (k _ _ ho) q) hn
  · cases ry
    obtain ⟨mB, J', _⟩ := ins_get I.hok hz
    obtain ⟨od', J', _⟩ := J'.look
    exact go J'.type (by unfold PySem.W.notFirst; simp)
theorem call_reprOwn (G : PrM X.prog X.w X.K X.mg X.base C "__repr__" ps j sp) (hr : Room k X.A) (hj : j + 2 ≤ k := by first | decide | omega) : CallR X (.builtin "repr") (rReprOwn C sp) := by
  intro pins s σ H xs us Q I r h
  obtain ⟨f, fd, M, hb, F⟩ := G
  obtain ⟨a, dx, fs, rfl, ha, q⟩ := h
  obtain ⟨u, rfl, ru⟩ := vals1 r
  cases ru
  obtain ⟨mA, J, _⟩ := ins_get I.hok ha
  obtain ⟨od, J, _⟩ := J.look
  obtain ⟨m, hF⟩ := I.fr
  have hr2 : Room j X.A.in1 := (hr.mono (show j + 1 ≤ k by omega)).in1
  refine PySem.W.repr_K hr2.units0 hF I.ok.mod.kin J M.at_ M.fn ?_
  refine run_at F hb (fun _ _ _ _ _ _ _ h => h.elim) hr2 rfl I (vs := [.ref a]) (.cons rfl .nil) q fun v u s' H' I' rv qv => ?_
  obtain ⟨z, rfl, qv⟩ := qv
  obtain ⟨t, rfl⟩ := rv
  exact ⟨.str z, H', I', ⟨t, rfl⟩, qv⟩
theorem opR_or {f : Value → Value → Sem Value} {r1 r2 : R2} (h1 : OpR X f r1) (h2 : OpR X f r2) : OpR X f (fun x y H Q => r1 x y H Q ∨ r2 x y H Q) := by
  intro pins s σ H x y v u Q I rx ry h
  rcases h with h | h
  · exact h1 pins s σ H x y v u Q I rx ry h
  · exact h2 pins s σ H x y v u Q I rx ry h
theorem pi_or {tg it : Expr} {w1 w2 : TI} (h1 : PI X tg it w1) (h2 : PI X tg it w2) : PI X tg it (fun σ H Q => w1 σ H Q ∨ w2 σ H Q) := by
  refine ⟨fun pins s σ H Q I h => ?_⟩
  rcases h with h | h
  · exact h1.run pins s σ H Q I h
  · exact h2.run pins s σ H Q I h
end
section
variable {X : Cx}
theorem call_len_seqK {K : PySem.W.Frag} (hK : X.K = K) : CallR X (.builtin "len") (fun xs H Q => ∃ p ys, xs = [V.ref p] ∧ (SqL K H p ys ∨ SqT K H p ys) ∧ Q (V.int (ys.length : Nat)) H) := hK ▸ call_len_seq
theorem call_isiK {K : PySem.W.Frag} (hK : X.K = K) : CallR X (.builtin "isinstance") (rIsi K) := hK ▸ call_isi
end
end Eyes

set_option Elab.async false
set_option linter.all false
set_option maxRecDepth 100000
set_option maxHeartbeats 4000000
/-! Rules of mine: len() of own instances, len(range(..)), methods called with keywords, __init__ with defaults. -/
namespace Eyes
open PySem PySem.Spec PyProof.Rows L2
def rLenOwn (C : Addr) (sp : Sp) : List V → Hp → VK → Prop := fun xs H Q => ∃ a dx fs, xs = [.ref a] ∧ H a = some (.ins C dx fs) ∧ sp [.ref a] H (fun v H' => ∃ n : Nat, v = .int (n : Int) ∧ n < 4294967296 ∧ Q v H') (fun _ _ _ => False)
section
variable {X : Cx} {C : Addr} {j k : Nat} {ps : List Str} {sp : Sp} {nm : Str}
theorem call_lenOwn (G : PrM X.prog X.w X.K X.mg X.base C "__len__" ps j sp) (hr : Room k X.A) (hj : j + 2 ≤ k := by first | decide | omega) : CallR X (.builtin "len") (rLenOwn C sp) := by
  intro pins s σ H xs us Q I r h
  obtain ⟨f, fd, M, hb, F⟩ := G
  obtain ⟨a, dx, fs, rfl, ha, q⟩ := h
  obtain ⟨u, rfl, ru⟩ := vals1 r
  cases ru
  obtain ⟨mA, J, _⟩ := ins_get I.hok ha
  obtain ⟨od, J, _⟩ := J.look
  obtain ⟨m, hF⟩ := I.fr
  have hr2 : Room j X.A.in1 := (hr.mono (show j + 1 ≤ k by omega)).in1
  refine PySem.W.len_K hF I.ok.mod.kin J M.at_ M.fn ?_
  refine run_at F hb (fun _ _ _ _ _ _ _ h => h.elim) hr2 rfl I (vs := [.ref a]) (.cons rfl .nil) q fun v u s' H' I' rv qv => ?_
  obtain ⟨n, rfl, hn, qv⟩ := qv
  obtain ⟨t, rfl⟩ := rv
  exact ⟨⟨by omega, by omega⟩, .int n, H', I'.tok _, ⟨_, rfl⟩, qv⟩
end
def tLenRg (te : L2.St → Hp → (Int → Int → Hp → Prop) → Prop) : TE := fun σ H Q => te σ H fun a b H1 => RgOk a b ∧ Q (.int (((b - a).toNat : Nat) : Int)) H1
section
variable {X : Cx} {e : Expr} {te : L2.St → Hp → (Int → Int → Hp → Prop) → Prop}
theorem pe_lenRg {p pos : Pos} (hg : Gl X "len") (hm : X.mg "len" = none) (he : PRg X e te) (na : starEach [e] X.env = (false, eval e X.env) :: starEach [] X.env := by rfl) : PE X (.Call (.Name "len" p) [e] [] pos) (tLenRg te) := by
  refine ⟨fun pins s σ H Q I h => ?_⟩
  refine Call_ (ld_blt I hg hm PySem.boot_len (PyProof.Rows.callWith_builtin1 (args_cons (thn (he pins s σ H _ I h) fun x s1 ⟨r, a, b, t, u, v, H1, ex, hr, I1, ok, q⟩ => args_nil ?_) na) na))
  subst ex
  obtain ⟨b1, b2, b3, b4, b5⟩ := ok
  refine call_len_range (n := (b - a).toNat) hr (rangeSize_nat a b) (by omega) ?_
  exact ⟨.int _, H1, I1.tok _, ⟨_, rfl⟩, q⟩
end
def PrMF (P : Program) (w : World) (K : PySem.W.Frag) (mg : Str → Option Value) (base : Heap) (C : Addr) (m qual : Str) (st : Stmt) (ps : List Str) (k : Nat) (sp : Sp) : Prop :=
  ∃ (f : Addr) (fd : FuncData), Meth K C m f ∧ Fun K m qual st f fd ∧ Binds K fd ps [] ∧ FnOk P w K mg base CX0 k f fd ps sp
def KwOkM (m qual : Str) (st : Stmt) (ps ks : List Str) (is : List Nat) : Prop :=
  ∀ (kV doc pm : Value) (an : Option Addr) (cdv ct : Value) (us ws : List Value), us.length = 1 → ws.length = ks.length → bindArgs (PySem.W.fnOf m qual (defArgs st) (defBody st) (defScope st) .none kV doc pm an cdv ct) ⟨us, ks.zip ws⟩ = pure (ps.zip (pick is (us ++ ws)))
def tMethN (C : Addr) (m : Str) (n : Nat) (sp : Sp) (is : List Nat) (ta : TE) (tk : TA) : TE := fun σ H Q => ta σ H fun x H1 => ∃ a dx fs, x = .ref a ∧ H1 a = some (.ins C dx fs) ∧ fs.lookup m = none ∧ tk σ H1 fun zs H2 => zs.length = n ∧ sp (pick is ([x] ++ zs)) H2 Q (fun _ _ _ => False)
section
variable {P : Program} {w : World} {K : PySem.W.Frag} {mg : Str → Option Value} {base : Heap}
theorem PrMF.m {C : Addr} {m qual : Str} {st : Stmt} {ps : List Str} {k : Nat} {sp : Sp} (G : PrMF P w K mg base C m qual st ps k sp) : PrM P w K mg base C m ps k sp := by
  obtain ⟨f, fd, M, F, hb, R⟩ := G
  exact ⟨f, fd, M, hb, R⟩
theorem prmf_mk {C : Addr} {m qual : Str} {st : Stmt} {N ps : List Str} {k : Nat} {sp : Sp} (A : MethAt K C m qual st ps) (S : FnScope N ps (defScope st)) (len : ∀ vs H Q E, sp vs H Q E → vs.length = ps.length)
    (hbody : ∀ (f : Addr) (cdv : Value) (A : Around) (outer : List Env) (s : Shared) (H : Hp) (vs : List V) (Q : VK) (E : XK), Room k (A.deeper (envOfC qual (defScope st) s.heap.objs.size f cdv)) → sp vs H Q E →
      ∃ t, PSs (cxOf CX0 P w K mg base N qual (defScope st) f cdv A outer s H E).nox (defBody st) t ∧ t { nx := fun _ H' => Q .non H', rt := Q } (start N vs) H) : PrMF P w K mg base C m qual st ps (k + 1) sp := by
  obtain ⟨f, fd, hm, F, hb⟩ := A
  exact ⟨f, fd, hm, F, hb, F.ok S len fun cdv A outer s H vs Q E hr h => hbody f cdv A outer s H vs Q E hr h⟩
end
section
variable {X : Cx} {C : Addr} {j k : Nat} {ps ks : List Str} {is : List Nat} {sp : Sp} {m qual : Str} {st : Stmt} {o : Expr} {kws : List Keyword} {apos pos : Pos} {ta : TE} {tk : TA}
theorem pmethN0 {pl : Sem Bool} (c : Cls X.K C) (G : PrMF X.prog X.w X.K X.mg X.base C m qual st ps j sp) (hk : KwOkM m qual st ps ks is) (hr : Room k X.A) (he : PE X o ta) (hkw : PK X kws tk) (hj : j ≤ k := by first | decide | omega)
    (hall : (backToKw pos (keywordEach kws X.env)).all (·.1.isSome) = true := by rfl) (hks : (backToKw pos (keywordEach kws X.env)).filterMap (·.1) = ks := by rfl)
    (hpl : ((backTo pos (starEach [] X.env)).any (·.1) || (backToKw pos (keywordEach kws X.env)).any (·.1.isNone)) = false := by rfl)
    (ht : eval (.Call (.Attribute o m apos) [] kws pos) X.env = (do
      let ov ← eval o X.env
      standAt apos.atName
      let (f, first) ← holding [ov] (getMethod ov m pl)
      callWith pos f first (backTo pos (starEach [] X.env)) (backToKw pos (keywordEach kws X.env))) := by rfl) :
    PE X (.Call (.Attribute o m apos) [] kws pos) (tMethN C m ks.length sp is ta tk) := by
  obtain ⟨f, fd, M, F0, hb, F⟩ := G
  refine ⟨fun pins s σ H Q I h => ?_⟩
  refine PySem.W.methodCall_KW (pl := pl) (thn (he.run pins s σ H _ I h) fun u s1 ⟨x, H1, I1, rx, a, dx, fs, ex, ea, l, q⟩ => ?_) ht
  subst ex
  obtain rfl : u = Value.ref a := rx
  refine getmeth_ok I1 ea c M l ?_
  refine PySem.W.callWith_KW0 (first := [.ref a]) (h₀ := X.base) I.ok.mod.kin M.kp hall ?_ hpl
  refine thn (hkw.run pos pins s1 σ H1 _ I1 q) fun ws s2 ⟨zs, H2, I2, rz, l2, q2⟩ => ⟨I2.kIn, ?_⟩
  rw [hks]
  have kb : KBn X.K fd ps 1 ks (fun us ws => pick is (us ++ ws)) (fun vs zs => pick is (vs ++ zs)) := by
    obtain ⟨oc, od, kV, doc, pm, an, cdv, ct, osl, rfl, lk, hcd⟩ := F0.ex
    exact ⟨fun s us ws _ h1 h2 => .of_eq (hk kV doc pm an cdv ct us ws h1 h2), fun r1 r2 => pick_vals (Vals.append r1 r2) is⟩
  exact run_fnN (us := [.ref a]) (vs := [.ref a]) F (hr.mono hj) kb (fun _ _ _ _ _ _ _ h => h.elim) I2 (.cons rfl .nil) rz rfl l2 q2
end
def InitAtD (K : PySem.W.Frag) (C : Addr) (qual : Str) (st : Stmt) (ps : List Str) : Prop :=
  ∃ (f : Addr) (fd : FuncData) (dvs : List V), L2.Mk K C f ∧ FunD K "__init__" qual (defArgs st) (defBody st) (defScope st) dvs [] f fd ∧ Binds K fd ps []
abbrev BindHD (x qual : Str) (st : Stmt) (ps : List Str) : Prop := ∀ (T : Addr) (kV doc pm : Value) (an : Option Addr) (cdv ct : Value) (us its : List Value), us.length = ps.length → its.length = 1 →
  ∃ k, bindArgs (PySem.W.fnOf x qual (defArgs st) (defBody st) (defScope st) (.ref T) kV doc pm an cdv ct) ⟨us, []⟩ = seqItems? (.ref T) >>= k ∧ k (some its.toArray) = pure (ps.zip us)
section
variable {P : Program} {w : World} {K : PySem.W.Frag} {mg : Str → Option Value} {base : Heap}
theorem initAtD_mk {C : Addr} {qual : Str} {st : Stmt} {ps : List Str} {f T d : Addr} {oT : Obj} {n : Nat} {oc : Value} {od an : Option Addr} {osl : Array (Option Value)} {kV doc pm cdv ct : Value} (mk : PySem.W.makesIn K C = true) (kc : PySem.W.keepIn K (.ref C) = true)
    (a : PySem.W.findIn K (.ref C) "__init__" = some (some (.ref f))) (i : PySem.W.isFn K (.ref f) = true) (l : K.lookup f = some ⟨oc, od, .func (PySem.W.fnOf "__init__" qual (defArgs st) (defBody st) (defScope st) (.ref T) kV doc pm an cdv ct), osl⟩)
    (c : PySem.W.codeIn K cdv qual = true) (k : PySem.W.keepIn K (.ref f) = true) (lT : K.lookup T = some oT) (oTd : oT.data = .seq #[.ref d] n) (hb : BindHD "__init__" qual st ps) : InitAtD K C qual st ps := by
  have F : FunD K "__init__" qual (defArgs st) (defBody st) (defScope st) [.ref d] [] f (PySem.W.fnOf "__init__" qual (defArgs st) (defBody st) (defScope st) (.ref T) kV doc pm an cdv ct) :=
    ⟨⟨oc, od, .ref T, kV, doc, pm, an, cdv, ct, osl, rfl, l, c, .inr ⟨fun z => (nomatch z), T, oT, [.ref d], n, rfl, lT, oTd, .cons rfl .nil⟩, .inl rfl⟩, k⟩
  refine ⟨f, _, [.ref d], ⟨mk, a, i, kc⟩, F, ?_⟩
  obtain ⟨ds, h1, h2⟩ := F.binds1 (ps := ps) ps.length 1 (fun z => (nomatch z)) rfl fun T kV doc pm an cdv ct us its e1 e2 => by
    obtain ⟨k, k1, k2⟩ := hb T kV doc pm an cdv ct us its e1 e2
    refine ⟨k, k1, ?_⟩
    rw [k2, List.drop_of_length_le (by rw [e2]; exact Nat.le_refl _), List.append_nil]
  cases h1
  exact h2
theorem priD_mk {C : Addr} {qual : Str} {st : Stmt} {N ps : List Str} {k : Nat} {sp : Sp} (A : InitAtD K C qual st ps) (S : FnScope N ps (defScope st)) (len : ∀ vs H Q E, sp vs H Q E → vs.length = ps.length)
    (hbody : ∀ (f : Addr) (cdv : Value) (A : Around) (outer : List Env) (s : Shared) (H : Hp) (vs : List V) (Q : VK) (E : XK), Room k (A.deeper (envOfC qual (defScope st) s.heap.objs.size f cdv)) → sp vs H Q E →
      ∃ t, PSs (cxOf CX0 P w K mg base N qual (defScope st) f cdv A outer s H E).nox (defBody st) t ∧ t { nx := fun _ H' => Q .non H', rt := Q } (start N vs) H) : PrI P w K mg base C ps (k + 1) sp := by
  obtain ⟨f, fd, dvs, hm, F, hb⟩ := A
  exact ⟨f, fd, hm, hb, F.ok S len fun cdv A outer s H vs Q E hr h => by
    obtain ⟨t, h1, h2⟩ := hbody f cdv A outer s H vs Q E hr h
    exact ⟨t, h1.nox, h2⟩⟩
end
end Eyes

set_option Elab.async false
set_option linter.all false
set_option maxRecDepth 100000
set_option maxHeartbeats 4000000
/-! An __init__ whose last parameter defaults to (), called without it. -/
namespace Eyes
open PySem PySem.Spec PyProof.Rows L2
def InitD0 (K : PySem.W.Frag) (C : Addr) (qual : Str) (st : Stmt) (ps : List Str) : Prop :=
  ∃ (f : Addr) (fd : FuncData) (d : Addr) (ds : List Value), L2.Mk K C f ∧ FunD K "__init__" qual (defArgs st) (defBody st) (defScope st) [.ref d] [] f fd ∧ Vals [.ref d] ds ∧ Binds K fd ps ds ∧ ∀ H, SqT K H d []
abbrev BindHD0 (x qual : Str) (st : Stmt) (ps : List Str) : Prop := ∀ (T : Addr) (kV doc pm : Value) (an : Option Addr) (cdv ct : Value) (us its : List Value), us.length + 1 = ps.length → its.length = 1 →
  ∃ k, bindArgs (PySem.W.fnOf x qual (defArgs st) (defBody st) (defScope st) (.ref T) kV doc pm an cdv ct) ⟨us, []⟩ = seqItems? (.ref T) >>= k ∧ k (some its.toArray) = pure (ps.zip (us ++ its))
section
variable {P : Program} {w : World} {K : PySem.W.Frag} {mg : Str → Option Value} {base : Heap}
theorem initD0_mk {C : Addr} {qual : Str} {st : Stmt} {ps : List Str} {f T d : Addr} {oT oE : Obj} {n m : Nat} {oc : Value} {od an : Option Addr} {osl : Array (Option Value)} {kV doc pm cdv ct : Value} (mk : PySem.W.makesIn K C = true) (kc : PySem.W.keepIn K (.ref C) = true)
    (a : PySem.W.findIn K (.ref C) "__init__" = some (some (.ref f))) (i : PySem.W.isFn K (.ref f) = true) (l : K.lookup f = some ⟨oc, od, .func (PySem.W.fnOf "__init__" qual (defArgs st) (defBody st) (defScope st) (.ref T) kV doc pm an cdv ct), osl⟩)
    (c : PySem.W.codeIn K cdv qual = true) (k : PySem.W.keepIn K (.ref f) = true) (lT : K.lookup T = some oT) (oTd : oT.data = .seq #[.ref d] n) (lE : K.lookup d = some oE) (oEc : oE.cls = .type "tuple") (oEd : oE.data = .seq #[] m) (hps : 1 ≤ ps.length) (hb : BindHD0 "__init__" qual st ps) : InitD0 K C qual st ps := by
  have F : FunD K "__init__" qual (defArgs st) (defBody st) (defScope st) [.ref d] [] f (PySem.W.fnOf "__init__" qual (defArgs st) (defBody st) (defScope st) (.ref T) kV doc pm an cdv ct) :=
    ⟨⟨oc, od, .ref T, kV, doc, pm, an, cdv, ct, osl, rfl, l, c, .inr ⟨fun z => (nomatch z), T, oT, [.ref d], n, rfl, lT, oTd, .cons rfl .nil⟩, .inl rfl⟩, k⟩
  obtain ⟨ds, h1, h2⟩ := F.binds1 (ps := ps) (ps.length - 1) 0 (fun z => (nomatch z)) (by show ps.length - 1 + 1 = ps.length; omega) fun T kV doc pm an cdv ct us its e1 e2 => by
    obtain ⟨k, k1, k2⟩ := hb T kV doc pm an cdv ct us its (by omega) e2
    exact ⟨k, k1, k2⟩
  exact ⟨f, _, d, ds, ⟨mk, a, i, kc⟩, F, h1, h2, fun H => .inr ⟨oE, #[], m, lE, oEc, oEd, Nat.zero_le _, .nil⟩⟩
end
def PrI0 (P : Program) (w : World) (K : PySem.W.Frag) (mg : Str → Option Value) (base : Heap) (C : Addr) (ps : List Str) (k : Nat) (sp : Sp) : Prop :=
  ∃ (f : Addr) (fd : FuncData) (d : Addr) (ds : List Value), L2.Mk K C f ∧ Vals [.ref d] ds ∧ Binds K fd ps ds ∧ (∀ H, SqT K H d []) ∧ FnOk P w K mg base CX0 k f fd ps sp
section
variable {P : Program} {w : World} {K : PySem.W.Frag} {mg : Str → Option Value} {base : Heap}
theorem pri0_mk {C : Addr} {qual : Str} {st : Stmt} {N ps : List Str} {k : Nat} {sp : Sp} (A : InitD0 K C qual st ps) (S : FnScope N ps (defScope st)) (len : ∀ vs H Q E, sp vs H Q E → vs.length = ps.length)
    (hbody : ∀ (f : Addr) (cdv : Value) (A : Around) (outer : List Env) (s : Shared) (H : Hp) (vs : List V) (Q : VK) (E : XK), Room k (A.deeper (envOfC qual (defScope st) s.heap.objs.size f cdv)) → sp vs H Q E →
      ∃ t, PSs (cxOf CX0 P w K mg base N qual (defScope st) f cdv A outer s H E).nox (defBody st) t ∧ t { nx := fun _ H' => Q .non H', rt := Q } (start N vs) H) : PrI0 P w K mg base C ps (k + 1) sp := by
  obtain ⟨f, fd, d, ds, hm, F, hv, hb, he⟩ := A
  exact ⟨f, fd, d, ds, hm, hv, hb, he, F.ok S len fun cdv A outer s H vs Q E hr h => by
    obtain ⟨t, h1, h2⟩ := hbody f cdv A outer s H vs Q E hr h
    exact ⟨t, h1.nox, h2⟩⟩
end
def tMake0 (K : PySem.W.Frag) (C : Addr) (sp : Sp) (t : TA) : TE := fun σ H Q => ∀ d, (∀ H', SqT K H' d []) → tMake C sp [.ref d] (fun _ _ _ => False) t σ H Q
section
variable {X : Cx} {x : Str} {ps : List Str} {sp : Sp} {e : Expr} {es : List Expr} {p pos : Pos} {t : TA} {K : PySem.W.Frag}
theorem pmake0 {C : Addr} {j k : Nat} (hK : X.K = K) (hm : X.mg x = some (.ref C)) (G : PrI0 X.prog X.w X.K X.mg X.base C ps j sp) (hr : Room k X.A) (ha : PA X (e :: es) t) (hj : j + 1 ≤ k := by first | decide | omega) (hg : Gl X x := by rfl)
    (hdb : (x == ("__debug__" : Str)) = false := by decide) (he : starEach (e :: es) X.env = (false, eval e X.env) :: starEach es X.env := by rfl) (hpl : (backTo pos (starEach es X.env)).any (·.1) = false := by rfl) :
    PE X (.Call (.Name x p) (e :: es) [] pos) (tMake0 K C sp t) := by
  subst hK
  obtain ⟨f, fd, d, ds, M, hv, hb, hd, F⟩ := G
  refine ⟨fun pins s σ H Q I h => ?_⟩
  exact (pe_make M F (hr.mono hj) hg hm hb hv (fun _ _ _ _ _ _ _ h => h.elim) ha hdb he hpl).run pins s σ H Q I (h d hd)
end
end Eyes

set_option Elab.async false
set_option linter.all false
set_option maxRecDepth 100000
set_option maxHeartbeats 4000000
/-! Static methods and classes called with keywords alone. -/
namespace Eyes
open PySem PySem.Spec PyProof.Rows L2
def PrStaF (P : Program) (w : World) (K : PySem.W.Frag) (mg : Str → Option Value) (base : Heap) (C : Addr) (m qual : Str) (st : Stmt) (ps : List Str) (k : Nat) (sp : Sp) : Prop :=
  ∃ (mc : Value) (p f : Addr) (fd : FuncData), ClX.CRead K C mc ∧ CSta K C mc m p f ∧ Fun K m qual st f fd ∧ Binds K fd ps [] ∧ FnOk P w K mg base CX0 k f fd ps sp
def KwOkS (m qual : Str) (st : Stmt) (ps ks : List Str) (is : List Nat) : Prop :=
  ∀ (kV doc pm : Value) (an : Option Addr) (cdv ct : Value) (ws : List Value), ws.length = ks.length → bindArgs (PySem.W.fnOf m qual (defArgs st) (defBody st) (defScope st) .none kV doc pm an cdv ct) ⟨[], ks.zip ws⟩ = pure (ps.zip (pick is ws))
section
variable {P : Program} {w : World} {K : PySem.W.Frag} {mg : Str → Option Value} {base : Heap}
theorem PrStaF.s {C : Addr} {m qual : Str} {st : Stmt} {ps : List Str} {k : Nat} {sp : Sp} (G : PrStaF P w K mg base C m qual st ps k sp) : PrSta P w K mg base C m ps k sp := by
  obtain ⟨mc, p, f, fd, r, a, _, hb, F⟩ := G
  exact ⟨mc, p, f, fd, r, a, hb, F⟩
theorem prstaF_mk {C : Addr} {m qual : Str} {st : Stmt} {N ps : List Str} {k : Nat} {sp : Sp} (A : StaAt K C m qual st ps) (S : FnScope N ps (defScope st)) (len : ∀ vs H Q E, sp vs H Q E → vs.length = ps.length)
    (hbody : ∀ (f : Addr) (cdv : Value) (A : Around) (outer : List Env) (s : Shared) (H : Hp) (vs : List V) (Q : VK) (E : XK), Room k (A.deeper (envOfC qual (defScope st) s.heap.objs.size f cdv)) → sp vs H Q E →
      ∃ t, PSs (cxOf CX0 P w K mg base N qual (defScope st) f cdv A outer s H E).nox (defBody st) t ∧ t { nx := fun _ H' => Q .non H', rt := Q } (start N vs) H) : PrStaF P w K mg base C m qual st ps (k + 1) sp := by
  obtain ⟨mc, p, f, fd, r, a, F, hb⟩ := A
  exact ⟨mc, p, f, fd, r, a, F, hb, F.ok S len fun cdv A outer s H vs Q E hr h => hbody f cdv A outer s H vs Q E hr h⟩
end
def tStaN (C : Addr) (n : Nat) (sp : Sp) (is : List Nat) (ta : TE) (tk : TA) : TE := fun σ H Q => ta σ H fun x H1 => x = .ref C ∧ tk σ H1 fun zs H2 => zs.length = n ∧ sp (pick is zs) H2 Q (fun _ _ _ => False)
section
variable {X : Cx} {C : Addr} {j k : Nat} {ps ks : List Str} {is : List Nat} {sp : Sp} {m qual : Str} {st : Stmt} {o : Expr} {kws : List Keyword} {apos pos : Pos} {ta : TE} {tk : TA}
theorem pstaN0 {pl : Sem Bool} (G : PrStaF X.prog X.w X.K X.mg X.base C m qual st ps j sp) (hk : KwOkS m qual st ps ks is) (hr : Room k X.A) (he : PE X o ta) (hkw : PK X kws tk) (hj : j ≤ k := by first | decide | omega)
    (hall : (backToKw pos (keywordEach kws X.env)).all (·.1.isSome) = true := by rfl) (hks : (backToKw pos (keywordEach kws X.env)).filterMap (·.1) = ks := by rfl)
    (hpl : ((backTo pos (starEach [] X.env)).any (·.1) || (backToKw pos (keywordEach kws X.env)).any (·.1.isNone)) = false := by rfl)
    (ht : eval (.Call (.Attribute o m apos) [] kws pos) X.env = (do
      let ov ← eval o X.env
      standAt apos.atName
      let (f, first) ← holding [ov] (getMethod ov m pl)
      callWith pos f first (backTo pos (starEach [] X.env)) (backToKw pos (keywordEach kws X.env))) := by rfl) :
    PE X (.Call (.Attribute o m apos) [] kws pos) (tStaN C ks.length sp is ta tk) := by
  obtain ⟨mc, p, f, fd, r, a, F0, hb, F⟩ := G
  refine ⟨fun pins s σ H Q I h => ?_⟩
  refine PySem.W.methodCall_KW (pl := pl) (thn (he.run pins s σ H _ I h) fun u s1 ⟨x, H1, I1, rx, ex, q⟩ => ?_) ht
  subst ex
  obtain rfl : u = Value.ref C := rx
  obtain ⟨rest, hp⟩ := a.rc
  refine PySem.W.method_cls I1.kIn r.ga (PySem.W.cls_bind I1.kIn r.rd a.at_ (wpAny_call (PySem.W.sm_get (s := { s1 with toks := s1.toks + 1 }) I1.kIn hp (PySem.W.handed_on rfl ?_))))
  have I2 : Inv X pins σ H1 { s1 with toks := s1.toks + 1 } := I1.tok _
  refine PySem.W.callWith_KW0 (first := []) (h₀ := X.base) I.ok.mod.kin a.kp hall ?_ hpl
  refine thn (hkw.run pos pins _ σ H1 _ I2 q) fun ws s2 ⟨zs, H2, I3, rz, l2, q2⟩ => ⟨I3.kIn, ?_⟩
  rw [hks]
  have kb : KBn X.K fd ps 0 ks (fun us ws => pick is ws) (fun vs zs => pick is zs) := by
    obtain ⟨oc, od, kV, doc, pm, an, cdv, ct, osl, rfl, lk, hcd⟩ := F0.ex
    exact ⟨fun s us ws _ h1 h2 => .of_eq (by rw [List.length_eq_zero_iff.mp h1]; exact hk kV doc pm an cdv ct ws h2), fun r1 r2 => pick_vals r2 is⟩
  exact run_fnN (us := []) (vs := []) F (hr.mono hj) kb (fun _ _ _ _ _ _ _ h => h.elim) I3 .nil rz rfl l2 q2
end
def PrIK (P : Program) (w : World) (K : PySem.W.Frag) (mg : Str → Option Value) (base : Heap) (C : Addr) (qual : Str) (st : Stmt) (ps : List Str) (k : Nat) (sp : Sp) : Prop :=
  ∃ (f : Addr) (fd : FuncData) (d : Addr), L2.Mk K C f ∧ FunD K "__init__" qual (defArgs st) (defBody st) (defScope st) [.ref d] [] f fd ∧ FnOk P w K mg base CX0 k f fd ps sp
def KwHD (x qual : Str) (st : Stmt) (ps ks : List Str) (is : List Nat) : Prop := ∀ (T : Addr) (kV doc pm : Value) (an : Option Addr) (cdv ct : Value) (us its ws : List Value), us.length = 1 → its.length = 1 → ws.length = ks.length →
  ∃ k, bindArgs (PySem.W.fnOf x qual (defArgs st) (defBody st) (defScope st) (.ref T) kV doc pm an cdv ct) ⟨us, ks.zip ws⟩ = seqItems? (.ref T) >>= k ∧ k (some its.toArray) = pure (ps.zip (pick is (us ++ ws)))
section
variable {P : Program} {w : World} {K : PySem.W.Frag} {mg : Str → Option Value} {base : Heap}
theorem prik_mk {C : Addr} {qual : Str} {st : Stmt} {N ps : List Str} {k : Nat} {sp : Sp} (A : InitD0 K C qual st ps) (S : FnScope N ps (defScope st)) (len : ∀ vs H Q E, sp vs H Q E → vs.length = ps.length)
    (hbody : ∀ (f : Addr) (cdv : Value) (A : Around) (outer : List Env) (s : Shared) (H : Hp) (vs : List V) (Q : VK) (E : XK), Room k (A.deeper (envOfC qual (defScope st) s.heap.objs.size f cdv)) → sp vs H Q E →
      ∃ t, PSs (cxOf CX0 P w K mg base N qual (defScope st) f cdv A outer s H E).nox (defBody st) t ∧ t { nx := fun _ H' => Q .non H', rt := Q } (start N vs) H) : PrIK P w K mg base C qual st ps (k + 1) sp := by
  obtain ⟨f, fd, d, ds, hm, F, hv, hb, he⟩ := A
  exact ⟨f, fd, d, hm, F, F.ok S len fun cdv A outer s H vs Q E hr h => by
    obtain ⟨t, h1, h2⟩ := hbody f cdv A outer s H vs Q E hr h
    exact ⟨t, h1.nox, h2⟩⟩
end
section
variable {X : Cx} {C : Addr} {j k : Nat} {ps ks : List Str} {is : List Nat} {sp : Sp} {x qual : Str} {st : Stmt} {kws : List Keyword} {p pos : Pos} {tk : TA}
theorem pmakeN0 (hm : X.mg x = some (.ref C)) (G : PrIK X.prog X.w X.K X.mg X.base C qual st ps j sp) (hk : KwHD "__init__" qual st ps ks is) (hr : Room k X.A) (hkw : PK X kws tk) (hj : j + 1 ≤ k := by first | decide | omega) (hg : Gl X x := by rfl)
    (hall : (backToKw pos (keywordEach kws X.env)).all (·.1.isSome) = true := by rfl) (hks : (backToKw pos (keywordEach kws X.env)).filterMap (·.1) = ks := by rfl) (hdb : (x == ("__debug__" : Str)) = false := by decide)
    (hpl : ((backTo pos (starEach [] X.env)).any (·.1) || (backToKw pos (keywordEach kws X.env)).any (·.1.isNone)) = false := by rfl) :
    PE X (.Call (.Name x p) [] kws pos) (tMakeK C 0 ks.length sp (fun vs zs => pick is (vs ++ zs)) (fun _ _ _ => False) tNil tk) := by
  obtain ⟨f, fd, d, M, F0, F⟩ := G
  obtain ⟨its, kb⟩ := F0.kbindsD (ps := ps) 1 ks (fun us _ ws => pick is (us ++ ws)) (fun z => (nomatch z)) (fun r1 _ r3 => pick_vals (Vals.append r1 r3) is) fun T kV doc pm an cdv ct us its ws e1 e2 e3 => hk T kV doc pm an cdv ct us its ws e1 e2 e3
  exact pe_makeK0 M F (hr.mono hj) hg hm kb (fun _ _ _ _ _ _ _ h => h.elim) hkw hall hks hdb hpl
end
end Eyes

set_option Elab.async false
set_option linter.all false
set_option maxRecDepth 100000
set_option maxHeartbeats 4000000
/-! Circles as data: texts, sizes, depths; how they are built; how they stand in the heap. -/
namespace Eyes
open PySem PySem.Spec PyProof.Rows L2 Evl TL
inductive Ci where
  | eye (n : Str)
  | node (k : Bool) (ps : List Ci)
def sepS : Bool → Str | true => " & " | false => " | "
def kindS : Bool → Str | true => "pool" | false => "common"
def wrapL (c : Ci) (t : List Nat) : List Nat := match c with
  | .eye _ => t
  | .node _ _ => 40 :: (t ++ [41])
mutual
def Ci.tx : Ci → List Nat
  | .eye n => tl n
  | .node k ps => joinL (tl (sepS k)) (inns ps)
def inns : List Ci → List (List Nat)
  | [] => []
  | c :: r => wrapL c c.tx :: inns r
end
mutual
def Ci.size : Ci → Nat
  | .eye _ => 1
  | .node _ ps => sizes ps
def sizes : List Ci → Nat
  | [] => 0
  | c :: r => c.size + sizes r
end
mutual
def Ci.depth : Ci → Nat
  | .eye _ => 0
  | .node _ ps => 1 + depths ps
def depths : List Ci → Nat
  | [] => 0
  | c :: r => max c.depth (depths r)
end
def Ci.str (c : Ci) : Str := ⟨c.tx.toArray⟩
def Ci.kind : Ci → Str | .eye _ => "eye" | .node k _ => kindS k
def Ci.name : Ci → Str | .eye n => n | .node _ _ => ""
def Ci.parts : Ci → List Ci | .eye _ => [] | .node _ ps => ps
def Ci.isK (k : Bool) : Ci → Bool | .eye _ => false | .node j _ => j == k
theorem tl_str (c : Ci) : tl c.str = c.tx := rfl
theorem inns_map : ∀ ps : List Ci, inns ps = ps.map fun c => wrapL c c.tx
  | [] => rfl
  | c :: r => by
    show wrapL c c.tx :: inns r = _
    rw [inns_map r]
    rfl
theorem depths_le : ∀ {ps : List Ci} {c : Ci}, c ∈ ps → c.depth ≤ depths ps
  | d :: r, c, h => by
    show c.depth ≤ max d.depth (depths r)
    rcases List.mem_cons.mp h with rfl | h
    · exact Nat.le_max_left _ _
    · exact Nat.le_trans (depths_le h) (Nat.le_max_right _ _)
/-! ### building -/
def flat (k : Bool) : List Ci → List Ci
  | [] => []
  | c :: r => (if c.isK k = true then c.parts else [c]) ++ flat k r
def dd : List Ci → List Ci → List Ci
  | acc, [] => acc
  | acc, c :: r => if acc.any (fun d => decide (d.str = c.str)) = true then dd acc r else dd (acc ++ [c]) r
def wrapK (k : Bool) : List Ci → Ci
  | [c] => c
  | ps => .node k ps
def mkC (k : Bool) (cs : List Ci) : Ci := wrapK k (dd [] (flat k cs))
/-! ### what is well made: names of letters, two parts or more -/
def nm (n : Str) : Prop := 1 ≤ n.length ∧ n.length ≤ 6 ∧ ∀ x ∈ tl n, 97 ≤ x ∧ x ≤ 122
mutual
def Ci.ok : Ci → Prop
  | .eye n => nm n
  | .node _ ps => 2 ≤ ps.length ∧ oks ps
def oks : List Ci → Prop
  | [] => True
  | c :: r => c.ok ∧ oks r
end
theorem oks_mem : ∀ {ps : List Ci}, oks ps ↔ ∀ c ∈ ps, c.ok
  | [] => ⟨fun _ _ h => (nomatch h), fun _ => True.intro⟩
  | c :: r => by
    show c.ok ∧ oks r ↔ _
    rw [oks_mem (ps := r)]
    constructor
    · rintro ⟨h1, h2⟩ d hd
      rcases List.mem_cons.mp hd with rfl | hd
      · exact h1
      · exact h2 d hd
    · intro h
      exact ⟨h c List.mem_cons_self, fun d hd => h d (List.mem_cons_of_mem _ hd)⟩
theorem joinL_len (S : List Nat) : ∀ l : List (List Nat), (joinL S l).length + S.length * (if l = [] then 0 else 1) = (l.map List.length).sum + S.length * l.length
  | [] => rfl
  | [p] => by simp [joinL]
  | p :: q :: r => by
    have ih := joinL_len S (q :: r)
    show (p ++ (S ++ joinL S (q :: r))).length + _ = _
    rw [if_neg (by simp)] at ih ⊢
    rw [List.length_append, List.length_append, List.map_cons, List.sum_cons]
    have e : S.length * (p :: q :: r).length = S.length * (q :: r).length + S.length := by rw [List.length_cons, Nat.mul_succ]
    rw [e]
    omega
mutual
theorem Ci.size_pos : ∀ c : Ci, c.ok → 1 ≤ c.size
  | .eye n, _ => Nat.le_refl _
  | .node k ps, h => Nat.le_trans (Nat.le_trans (by decide) h.1) (sizes_len ps h.2)
theorem sizes_len : ∀ ps : List Ci, oks ps → ps.length ≤ sizes ps
  | [], _ => Nat.zero_le _
  | c :: r, h => by
    have h1 := Ci.size_pos c h.1
    have h2 := sizes_len r h.2
    show r.length + 1 ≤ c.size + sizes r
    omega
end
/-! ### in the heap -/
def flds (kind name : Str) (l : Addr) (s d : Int) (t : Str) : List (Str × V) :=
  putF "_text" (.str t) (putF "depth" (.int d) (putF "size" (.int s) (putF "_parts" (.ref l) (putF "name" (.str name) (putF "kind" (.str kind) [])))))
section
variable {kind name t : Str} {l : Addr} {s d : Int}
end
mutual
inductive CiAt (C : Addr) (H : Hp) : V → Ci → Prop
  | mk {p dx l : Addr} {vs : List V} {c : Ci} {ps : List Ci} : ps = c.parts → H p = some (.ins C dx (flds c.kind c.name l c.size c.depth c.str)) → H l = some (.lst vs) → CisAt C H vs ps → CiAt C H (.ref p) c
inductive CisAt (C : Addr) (H : Hp) : List V → List Ci → Prop
  | nil : CisAt C H [] []
  | cons {v : V} {vs : List V} {c : Ci} {cs : List Ci} : CiAt C H v c → CisAt C H vs cs → CisAt C H (v :: vs) (c :: cs)
end
mutual
theorem CiAt.mono {C : Addr} {H H' : Hp} (e : Ex H H') : ∀ {v : V} {c : Ci}, CiAt C H v c → CiAt C H' v c
  | _, _, .mk h0 h1 h2 h3 => .mk h0 (e _ _ h1) (e _ _ h2) (CisAt.mono e h3)
theorem CisAt.mono {C : Addr} {H H' : Hp} (e : Ex H H') : ∀ {vs : List V} {cs : List Ci}, CisAt C H vs cs → CisAt C H' vs cs
  | _, _, .nil => .nil
  | _, _, .cons h r => .cons (CiAt.mono e h) (CisAt.mono e r)
end
section
variable {C : Addr} {H : Hp}
theorem CisAt.length : ∀ {vs : List V} {cs : List Ci}, CisAt C H vs cs → vs.length = cs.length
  | _, _, .nil => rfl
  | _, _, .cons _ r => congrArg Nat.succ (CisAt.length r)
theorem CisAt.get : ∀ {vs : List V} {cs : List Ci} {i : Nat} {v : V}, CisAt C H vs cs → vs[i]? = some v → ∃ c, cs[i]? = some c ∧ CiAt C H v c
  | _, _, _, _, .nil, e => by simp at e
  | _, _, 0, _, .cons h _, e => by
    simp at e
    subst e
    exact ⟨_, rfl, h⟩
  | _, _, i + 1, v, .cons _ r, e => by
    obtain ⟨c, h1, h2⟩ := CisAt.get (i := i) (v := v) r (by simpa using e)
    exact ⟨c, by simpa using h1, h2⟩
theorem CisAt.append : ∀ {vs ws : List V} {cs ds : List Ci}, CisAt C H vs cs → CisAt C H ws ds → CisAt C H (vs ++ ws) (cs ++ ds)
  | _, _, _, _, .nil, s => s
  | _, _, _, _, .cons h r, s => .cons h (CisAt.append r s)
theorem CisAt.one {v : V} {c : Ci} (h : CiAt C H v c) : CisAt C H [v] [c] := .cons h .nil
theorem CiAt.at_ {v : V} {c : Ci} (h : CiAt C H v c) : ∃ p dx l vs, v = .ref p ∧ H p = some (.ins C dx (flds c.kind c.name l c.size c.depth c.str)) ∧ H l = some (.lst vs) ∧ CisAt C H vs c.parts := by
  cases h with
  | mk h0 h1 h2 h3 =>
    subst h0
    exact ⟨_, _, _, _, rfl, h1, h2, h3⟩
end
/-! ### facts about building -/
theorem dd_sub : ∀ {acc cs : List Ci} {d : Ci}, d ∈ dd acc cs → d ∈ acc ∨ d ∈ cs
  | acc, [], d, h => .inl h
  | acc, e :: r, d, h => by
    unfold dd at h
    by_cases g : acc.any (fun d => decide (d.str = e.str)) = true
    · rw [if_pos g] at h
      exact (dd_sub h).imp_right (List.mem_cons_of_mem _)
    · rw [if_neg g] at h
      rcases dd_sub h with h | h
      · rcases List.mem_append.mp h with h | h
        · exact .inl h
        · rw [List.mem_singleton.mp h]
          exact .inr List.mem_cons_self
      · exact .inr (List.mem_cons_of_mem _ h)
theorem dd_ge : ∀ {acc cs : List Ci}, acc.length ≤ (dd acc cs).length
  | acc, [] => Nat.le_refl _
  | acc, e :: r => by
    unfold dd
    by_cases g : acc.any (fun d => decide (d.str = e.str)) = true
    · rw [if_pos g]
      exact dd_ge
    · rw [if_neg g]
      have := dd_ge (acc := acc ++ [e]) (cs := r)
      rw [List.length_append, List.length_singleton] at this
      omega
theorem dd_ne {cs : List Ci} (h : cs ≠ []) : dd [] cs ≠ [] := by
  cases cs with
  | nil => exact absurd rfl h
  | cons e r =>
    have := dd_ge (acc := [e]) (cs := r)
    intro g
    have g2 : dd [e] r = [] := g
    rw [g2] at this
    exact absurd this (by simp)
def Ci.fine (c : Ci) : Prop := c.ok ∧ c.size ≤ 60
theorem sizes_mem : ∀ {ps : List Ci} {c : Ci}, c ∈ ps → c.size ≤ sizes ps
  | d :: r, c, h => by
    show c.size ≤ d.size + sizes r
    rcases List.mem_cons.mp h with rfl | h
    · omega
    · have := sizes_mem h
      omega
theorem parts_fine {c d : Ci} (h : c.fine) (hd : d ∈ c.parts) : d.fine := by
  cases c with
  | eye n => exact absurd hd (by intro h; cases h)
  | node k ps =>
    have hd : d ∈ ps := hd
    have h2 : sizes ps ≤ 60 := h.2
    exact ⟨oks_mem.mp h.1.2 d hd, Nat.le_trans (sizes_mem hd) h2⟩
theorem flat_fine {k : Bool} : ∀ {cs : List Ci}, (∀ c ∈ cs, c.fine) → ∀ d ∈ flat k cs, d.fine
  | [], _, d, hd => by cases hd
  | c :: r, h, d, hd => by
    unfold flat at hd
    rcases List.mem_append.mp hd with hd | hd
    · by_cases g : c.isK k = true
      · rw [if_pos g] at hd
        exact parts_fine (h c List.mem_cons_self) hd
      · rw [if_neg g] at hd
        rw [List.mem_singleton.mp hd]
        exact h c List.mem_cons_self
    · exact flat_fine (fun e he => h e (List.mem_cons_of_mem _ he)) d hd
theorem flat_ne {k : Bool} {cs : List Ci} (hf : ∀ c ∈ cs, c.ok) (h : cs ≠ []) : flat k cs ≠ [] := by
  cases cs with
  | nil => exact absurd rfl h
  | cons c r =>
    intro g
    have g2 : (if c.isK k = true then c.parts else [c]) = [] := (List.append_eq_nil_iff.mp g).1
    by_cases e : c.isK k = true
    · rw [if_pos e] at g2
      have := hf c List.mem_cons_self
      cases c with
      | eye n => cases e
      | node j ps =>
        have h2 : 2 ≤ ps.length := this.1
        have g2 : ps = [] := g2
        rw [g2] at h2
        exact absurd h2 (by decide)
    · rw [if_neg e] at g2
      cases g2
def pts (k : Bool) (cs : List Ci) : List Ci := dd [] (flat k cs)
theorem mkC_one {k : Bool} {cs : List Ci} {c : Ci} (h : pts k cs = [c]) : mkC k cs = c := by
  show wrapK k (pts k cs) = c
  rw [h]
  rfl
theorem mkC_more {k : Bool} {cs : List Ci} (h : (pts k cs).length ≠ 1) : mkC k cs = .node k (pts k cs) := by
  show wrapK k (pts k cs) = _
  generalize pts k cs = l at h
  match l, h with
  | [], _ => rfl
  | [c], h => exact absurd rfl h
  | c :: d :: r, _ => rfl
structure Good (k : Bool) (cs : List Ci) : Prop where
  ne : cs ≠ []
  fine : ∀ c ∈ cs, c.fine
  few : cs.length ≤ 1400
  size : (mkC k cs).size ≤ 60
  depth : (mkC k cs).depth ≤ 20
theorem Good.pts_ne {k : Bool} {cs : List Ci} (g : Good k cs) : pts k cs ≠ [] := dd_ne (flat_ne (fun c hc => (g.fine c hc).1) g.ne)
theorem Good.pts_fine {k : Bool} {cs : List Ci} (g : Good k cs) : ∀ c ∈ pts k cs, c.fine := fun c hc => by
  rcases dd_sub hc with h | h
  · cases h
  · exact flat_fine g.fine c h
theorem Good.ok {k : Bool} {cs : List Ci} (g : Good k cs) : (mkC k cs).fine := by
  refine ⟨?_, g.size⟩
  by_cases h : (pts k cs).length = 1
  · obtain ⟨c, hc⟩ := List.length_eq_one_iff.mp h
    rw [mkC_one hc]
    exact (g.pts_fine c (by rw [hc]; exact List.mem_cons_self)).1
  · rw [mkC_more h]
    refine ⟨?_, oks_mem.mpr fun c hc => (g.pts_fine c hc).1⟩
    have := List.length_pos_iff.mpr g.pts_ne
    omega
end Eyes

set_option Elab.async false
set_option linter.all false
set_option maxRecDepth 100000
set_option maxHeartbeats 4000000
/-! A text tells its circle. -/
namespace Eyes
open PySem PySem.Spec PyProof.Rows L2 Evl TL
def scan : Nat → List Nat → List Nat → List Nat × List Nat
  | _, acc, [] => (acc, [])
  | d, acc, x :: r => if x = 40 then scan (d + 1) (acc ++ [x]) r else if x = 41 then scan (d - 1) (acc ++ [x]) r else if x = 32 ∧ d = 0 then (acc, x :: r) else scan d (acc ++ [x]) r
theorem scan_open {d : Nat} {acc r : List Nat} : scan d acc (40 :: r) = scan (d + 1) (acc ++ [40]) r := by
  rw [scan, if_pos rfl]
theorem scan_close {d : Nat} {acc r : List Nat} : scan (d + 1) acc (41 :: r) = scan d (acc ++ [41]) r := by
  rw [scan, if_neg (by decide), if_pos rfl, Nat.add_sub_cancel]
theorem scan_other {d x : Nat} {acc r : List Nat} (h1 : x ≠ 40) (h2 : x ≠ 41) (h3 : x ≠ 32 ∨ 1 ≤ d) : scan d acc (x :: r) = scan d (acc ++ [x]) r := by
  rw [scan, if_neg h1, if_neg h2, if_neg]
  rintro ⟨a, b⟩
  rcases h3 with h | h
  · exact h a
  · omega
theorem scan_let {d : Nat} : ∀ (n acc r : List Nat), (∀ x ∈ n, 97 ≤ x ∧ x ≤ 122) → scan d acc (n ++ r) = scan d (acc ++ n) r
  | [], acc, r, _ => by rw [List.append_nil]; rfl
  | x :: n, acc, r, h => by
    have hx := h x List.mem_cons_self
    show scan d acc (x :: (n ++ r)) = _
    rw [scan_other (by omega) (by omega) (.inl (by omega)), scan_let n _ r fun y hy => h y (List.mem_cons_of_mem _ hy), List.append_assoc]
    rfl
def Itm (p : List Nat) : Prop := ∀ d acc r, scan d acc (p ++ r) = scan d (acc ++ p) r
theorem sep_tl (k : Bool) : tl (sepS k) = [32, if k = true then 38 else 124, 32] := by cases k <;> decide +kernel
theorem scan_sep {k : Bool} {d : Nat} {acc r : List Nat} : scan (d + 1) acc (tl (sepS k) ++ r) = scan (d + 1) (acc ++ tl (sepS k)) r := by
  rw [sep_tl]
  show scan (d + 1) acc (32 :: (if k = true then 38 else 124) :: 32 :: r) = _
  rw [scan_other (by decide) (by decide) (.inr (by omega)), scan_other (by cases k <;> decide) (by cases k <;> decide) (.inr (by omega)), scan_other (by decide) (by decide) (.inr (by omega))]
  simp
theorem scan_join {k : Bool} {d : Nat} : ∀ (l : List (List Nat)) (acc r : List Nat), (∀ p ∈ l, Itm p) → scan (d + 1) acc (joinL (tl (sepS k)) l ++ r) = scan (d + 1) (acc ++ joinL (tl (sepS k)) l) r
  | [], acc, r, _ => by show scan (d + 1) acc r = scan (d + 1) (acc ++ []) r; rw [List.append_nil]
  | [p], acc, r, h => h p List.mem_cons_self _ _ _
  | p :: q :: l, acc, r, h => by
    show scan (d + 1) acc ((p ++ (tl (sepS k) ++ joinL (tl (sepS k)) (q :: l))) ++ r) = _
    rw [List.append_assoc, h p List.mem_cons_self, List.append_assoc, scan_sep, scan_join (q :: l) _ r fun y hy => h y (List.mem_cons_of_mem _ hy), List.append_assoc, List.append_assoc]
    rfl
mutual
theorem Ci.itm : ∀ c : Ci, c.ok → Itm (wrapL c c.tx)
  | .eye n, h => fun d acc r => scan_let (tl n) acc r h.2.2
  | .node k ps, h => fun d acc r => by
    show scan d acc ((40 :: (joinL (tl (sepS k)) (inns ps) ++ [41])) ++ r) = scan d (acc ++ (40 :: (joinL (tl (sepS k)) (inns ps) ++ [41]))) r
    have e : (40 :: (joinL (tl (sepS k)) (inns ps) ++ [41])) ++ r = 40 :: (joinL (tl (sepS k)) (inns ps) ++ (41 :: r)) := by simp
    rw [e, scan_open, scan_join _ _ _ (inns_itm ps h.2), scan_close]
    simp
theorem inns_itm : ∀ ps : List Ci, oks ps → ∀ p ∈ inns ps, Itm p
  | [], _, p, hp => by cases hp
  | c :: r, h, p, hp => by
    rcases List.mem_cons.mp hp with rfl | hp
    · exact Ci.itm c h.1
    · exact inns_itm r h.2 p hp
end
theorem Itm.all {p : List Nat} (h : Itm p) : scan 0 [] p = (p, []) := by
  have := h 0 [] []
  rw [List.append_nil] at this
  exact this
theorem Itm.cut {p r : List Nat} (h : Itm p) : scan 0 [] (p ++ 32 :: r) = (p, 32 :: r) := by
  rw [h 0 [] (32 :: r), scan, if_neg (by decide), if_neg (by decide), if_pos ⟨rfl, rfl⟩]
  rfl
theorem join_cons (k : Bool) (p q : List Nat) (l : List (List Nat)) : joinL (tl (sepS k)) (p :: q :: l) = p ++ 32 :: (if k = true then 38 else 124) :: 32 :: joinL (tl (sepS k)) (q :: l) := by
  show p ++ (tl (sepS k) ++ _) = _
  rw [sep_tl]
  rfl
theorem join_inj {k : Bool} : ∀ (l m : List (List Nat)), l ≠ [] → m ≠ [] → (∀ p ∈ l, Itm p) → (∀ p ∈ m, Itm p) → joinL (tl (sepS k)) l = joinL (tl (sepS k)) m → l = m
  | [], _, h, _, _, _, _ => absurd rfl h
  | _, [], _, h, _, _, _ => absurd rfl h
  | [p], [q], _, _, _, _, e => by
    have e : p = q := e
    rw [e]
  | [p], q :: q2 :: m, _, _, h1, h2, e => by
    rw [join_cons] at e
    have e : p = _ := e
    have := (h1 p List.mem_cons_self).all
    rw [e, (h2 q List.mem_cons_self).cut] at this
    injection this with a b
    cases b
  | p :: p2 :: l, [q], _, _, h1, h2, e => by
    rw [join_cons] at e
    have e : _ = q := e
    have := (h2 q List.mem_cons_self).all
    rw [← e, (h1 p List.mem_cons_self).cut] at this
    injection this with a b
    cases b
  | p :: p2 :: l, q :: q2 :: m, _, _, h1, h2, e => by
    rw [join_cons, join_cons] at e
    have c1 := (h1 p List.mem_cons_self).cut (r := (if k = true then 38 else 124) :: 32 :: joinL (tl (sepS k)) (p2 :: l))
    rw [e, (h2 q List.mem_cons_self).cut] at c1
    injection c1 with a b
    injection b with _ b
    injection b with _ b
    injection b with _ b
    rw [a, join_inj (p2 :: l) (q2 :: m) (by simp) (by simp) (fun y hy => h1 y (List.mem_cons_of_mem _ hy)) (fun y hy => h2 y (List.mem_cons_of_mem _ hy)) b.symm]
theorem inns_ne {ps : List Ci} (h : 2 ≤ ps.length) : inns ps ≠ [] := by
  rw [inns_map]
  intro e
  have := congrArg List.length e
  rw [List.length_map] at this
  simp at this
  rw [this] at h
  exact absurd h (by decide)
theorem node_cut {k : Bool} {ps : List Ci} (h : (Ci.node k ps).ok) : ∃ p r, (Ci.node k ps).tx = p ++ 32 :: (if k = true then 38 else 124) :: r ∧ Itm p := by
  obtain ⟨h2, h3⟩ := h
  match ps, h2, h3 with
  | c :: d :: r, _, h3 => exact ⟨_, _, join_cons k (wrapL c c.tx) (wrapL d d.tx) (inns r), Ci.itm c h3.1⟩
theorem kind_inj {k j : Bool} (h : (if k = true then 38 else 124) = (if j = true then 38 else 124)) : k = j := by
  cases k <;> cases j <;> first | rfl | exact absurd h (by decide)
mutual
theorem tx_inj : ∀ c d : Ci, c.ok → d.ok → c.tx = d.tx → c = d
  | .eye n, .eye m, _, _, e => by
    have e : tl n = tl m := e
    rw [ext_tl e]
  | .eye n, .node k ps, h1, h2, e => by
    obtain ⟨p, r, e2, hp⟩ := node_cut h2
    have h3 := (Ci.itm (.eye n) h1).all
    have e : tl n = (Ci.node k ps).tx := e
    have h3 : scan 0 [] (tl n) = (tl n, []) := h3
    rw [e, e2, hp.cut] at h3
    injection h3 with a b
    cases b
  | .node k ps, .eye n, h2, h1, e => by
    obtain ⟨p, r, e2, hp⟩ := node_cut h2
    have h3 := (Ci.itm (.eye n) h1).all
    have e : (Ci.node k ps).tx = tl n := e
    have h3 : scan 0 [] (tl n) = (tl n, []) := h3
    rw [← e, e2, hp.cut] at h3
    injection h3 with a b
    cases b
  | .node k ps, .node j qs, h1, h2, e => by
    obtain ⟨p, r, e1, hp⟩ := node_cut h1
    obtain ⟨q, t, e2, hq⟩ := node_cut h2
    have hk : k = j := by
      have h3 := hp.cut (r := (if k = true then 38 else 124) :: r)
      rw [← e1, e, e2, hq.cut] at h3
      injection h3 with a b
      injection b with _ b
      injection b with b _
      exact (kind_inj b).symm
    subst hk
    have e3 := join_inj (k := k) (inns ps) (inns qs) (inns_ne h1.1) (inns_ne h2.1) (inns_itm ps h1.2) (inns_itm qs h2.2) e
    rw [inns_inj ps qs h1.2 h2.2 e3]
theorem inns_inj : ∀ ps qs : List Ci, oks ps → oks qs → inns ps = inns qs → ps = qs
  | [], [], _, _, _ => rfl
  | [], d :: s, _, _, e => by cases e
  | c :: r, [], _, _, e => by cases e
  | c :: r, d :: s, h1, h2, e => by
    have e : wrapL c c.tx :: inns r = wrapL d d.tx :: inns s := e
    injection e with a b
    have a : c.tx = d.tx := by
      cases c with
      | eye n =>
        cases d with
        | eye m => exact a
        | node j qs =>
          have a : tl n = 40 :: _ := a
          have h3 : nm n := h1.1
          have h4 := h3.2.2 40 (by rw [a]; exact List.mem_cons_self)
          omega
      | node k ps =>
        cases d with
        | eye m =>
          have a : 40 :: _ = tl m := a
          have h3 : nm m := h2.1
          have h4 := h3.2.2 40 (by rw [← a]; exact List.mem_cons_self)
          omega
        | node j qs =>
          have a : 40 :: ((Ci.node k ps).tx ++ [41]) = 40 :: ((Ci.node j qs).tx ++ [41]) := a
          injection a with _ a
          exact List.append_cancel_right a
    rw [tx_inj c d h1.1 h2.1 a, inns_inj r s h1.2 h2.2 b]
end
theorem str_inj {c d : Ci} (h1 : c.ok) (h2 : d.ok) (e : c.str = d.str) : c = d := tx_inj c d h1 h2 (by rw [← tl_str, ← tl_str, e])
end Eyes

set_option Elab.async false
set_option linter.all false
set_option maxRecDepth 100000
set_option maxHeartbeats 4000000
/-! Circles as the laws write them: tuples within tuples. -/
namespace Eyes
open PySem PySem.Spec PyProof.Rows L2 Evl TL
mutual
def Ci.data : Ci → PyData
  | .eye n => .tuple [.str "eye", .str n]
  | .node k ps => .tuple [.str (kindS k), .tuple (datas ps)]
def datas : List Ci → List PyData
  | [] => []
  | c :: r => c.data :: datas r
end
def dl : List Ci → List Ci → List Ci
  | acc, [] => acc
  | acc, c :: r => if (datas acc).any (fun z => PyData.eqv z c.data) = true then dl acc r else dl (acc ++ [c]) r
theorem flat_ok {k : Bool} : ∀ {cs : List Ci}, (∀ c ∈ cs, c.ok) → ∀ d ∈ flat k cs, d.ok
  | [], _, d, hd => by cases hd
  | c :: r, h, d, hd => by
    unfold flat at hd
    rcases List.mem_append.mp hd with hd | hd
    · by_cases g : c.isK k = true
      · rw [if_pos g] at hd
        cases c with
        | eye n => cases g
        | node j ps => exact oks_mem.mp (h (.node j ps) List.mem_cons_self).2 d hd
      · rw [if_neg g] at hd
        rw [List.mem_singleton.mp hd]
        exact h c List.mem_cons_self
    · exact flat_ok (fun e he => h e (List.mem_cons_of_mem _ he)) d hd
end Eyes

set_option Elab.async false
set_option linter.all false
set_option maxRecDepth 100000
set_option maxHeartbeats 4000000
/-! Normal circles: what joining gives, and what signs build. -/
namespace Eyes
open PySem PySem.Spec PyProof.Rows L2 Evl TL
mutual
def Ci.norm : Ci → Prop
  | .eye n => nm n
  | .node k ps => 2 ≤ ps.length ∧ (∀ c ∈ ps, c.isK k = false) ∧ ps.Nodup ∧ norms ps
def norms : List Ci → Prop
  | [] => True
  | c :: r => c.norm ∧ norms r
end
theorem norms_mem : ∀ {ps : List Ci}, norms ps ↔ ∀ c ∈ ps, c.norm
  | [] => ⟨fun _ _ h => (nomatch h), fun _ => True.intro⟩
  | c :: r => by
    show c.norm ∧ norms r ↔ _
    rw [norms_mem (ps := r)]
    constructor
    · rintro ⟨h1, h2⟩ d hd
      rcases List.mem_cons.mp hd with rfl | hd
      · exact h1
      · exact h2 d hd
    · intro h
      exact ⟨h c List.mem_cons_self, fun d hd => h d (List.mem_cons_of_mem _ hd)⟩
mutual
theorem Ci.norm_ok : ∀ c : Ci, c.norm → c.ok
  | .eye n, h => h
  | .node k ps, h => ⟨h.1, norms_ok ps h.2.2.2⟩
theorem norms_ok : ∀ ps : List Ci, norms ps → oks ps
  | [], _ => True.intro
  | c :: r, h => ⟨Ci.norm_ok c h.1, norms_ok r h.2⟩
end
theorem norm_of {c : Ci} (h : c.norm) : c.ok := c.norm_ok h
theorem any_str {acc : List Ci} {c : Ci} (h1 : ∀ d ∈ acc, d.ok) (h2 : c.ok) : acc.any (fun d => decide (d.str = c.str)) = true ↔ c ∈ acc := by
  rw [List.any_eq_true]
  constructor
  · rintro ⟨d, hd, e⟩
    rw [← str_inj (h1 d hd) h2 (of_decide_eq_true e)]
    exact hd
  · intro h
    exact ⟨c, h, decide_eq_true rfl⟩
theorem dd_is_nodup : ∀ {acc cs : List Ci}, (∀ d ∈ acc, d.ok) → (∀ d ∈ cs, d.ok) → acc.Nodup → (dd acc cs).Nodup
  | acc, [], _, _, h => h
  | acc, c :: r, h1, h2, h3 => by
    unfold dd
    have h4 : ∀ d ∈ r, d.ok := fun d hd => h2 d (List.mem_cons_of_mem _ hd)
    by_cases g : acc.any (fun d => decide (d.str = c.str)) = true
    · rw [if_pos g]
      exact dd_is_nodup h1 h4 h3
    · rw [if_neg g]
      have hc : c ∉ acc := fun h => g ((any_str h1 (h2 c List.mem_cons_self)).mpr h)
      refine dd_is_nodup (fun d hd => ?_) h4 ?_
      · rcases List.mem_append.mp hd with hd | hd
        · exact h1 d hd
        · rw [List.mem_singleton.mp hd]
          exact h2 c List.mem_cons_self
      · refine List.nodup_append.mpr ⟨h3, (by simp), fun a ha b hb => ?_⟩
        rw [List.mem_singleton.mp hb]
        intro e
        exact hc (e ▸ ha)
theorem flat_norm {k : Bool} : ∀ {cs : List Ci}, (∀ c ∈ cs, c.norm) → ∀ d ∈ flat k cs, d.norm ∧ d.isK k = false
  | [], _, d, hd => by cases hd
  | c :: r, h, d, hd => by
    unfold flat at hd
    have hc := h c List.mem_cons_self
    rcases List.mem_append.mp hd with hd | hd
    · by_cases g : c.isK k = true
      · rw [if_pos g] at hd
        cases c with
        | eye n => cases g
        | node j ps =>
          have hd2 : d ∈ ps := hd
          have g : (j == k) = true := g
          have e : j = k := by simpa using g
          subst e
          exact ⟨norms_mem.mp hc.2.2.2 d hd2, hc.2.1 d hd2⟩
      · rw [if_neg g] at hd
        rw [List.mem_singleton.mp hd]
        exact ⟨hc, by simpa using g⟩
    · exact flat_norm (fun e he => h e (List.mem_cons_of_mem _ he)) d hd
theorem mkC_norm {k : Bool} {cs : List Ci} (hne : cs ≠ []) (h : ∀ c ∈ cs, c.norm) : (mkC k cs).norm := by
  have hf := flat_norm (k := k) h
  have hok : ∀ d ∈ flat k cs, d.ok := fun d hd => norm_of (hf d hd).1
  have hsub : ∀ d ∈ pts k cs, d ∈ flat k cs := fun d hd => by
    rcases dd_sub hd with g | g
    · cases g
    · exact g
  by_cases h1 : (pts k cs).length = 1
  · obtain ⟨c, hc⟩ := List.length_eq_one_iff.mp h1
    rw [mkC_one hc]
    exact (hf c (hsub c (by rw [hc]; exact List.mem_cons_self))).1
  · rw [mkC_more h1]
    have hn : pts k cs ≠ [] := dd_ne (flat_ne (fun c hc => norm_of (h c hc)) hne)
    have := List.length_pos_iff.mpr hn
    exact ⟨by omega, fun d hd => (hf d (hsub d hd)).2, dd_is_nodup (fun _ h => by cases h) hok List.nodup_nil, norms_mem.mpr fun d hd => (hf d (hsub d hd)).1⟩
def some_of (k : Bool) : List Ci → Ci
  | [c] => c
  | ps => .node k ps
theorem sizes_append : ∀ a b : List Ci, sizes (a ++ b) = sizes a + sizes b
  | [], b => by show sizes b = 0 + sizes b; omega
  | c :: r, b => by
    show c.size + sizes (r ++ b) = (c.size + sizes r) + sizes b
    rw [sizes_append r b]
    omega
theorem sizes_flat {k : Bool} : ∀ cs : List Ci, sizes (flat k cs) = sizes cs
  | [] => rfl
  | c :: r => by
    unfold flat
    rw [sizes_append, sizes_flat r]
    show _ = c.size + sizes r
    by_cases g : c.isK k = true
    · rw [if_pos g]
      cases c with
      | eye n => cases g
      | node j ps => rfl
    · rw [if_neg g]
      rfl
end Eyes

set_option Elab.async false
set_option linter.all false
set_option maxRecDepth 100000
/-! The eyes of a circle: leaves, sorted lists of texts. -/
namespace Eyes
open PySem PySem.Spec PyProof.Rows L2 Evl TL
mutual
def Ci.leaves : Ci → List Str
  | .eye n => [n]
  | .node _ ps => leavess ps
def leavess : List Ci → List Str
  | [] => []
  | c :: r => c.leaves ++ leavess r
end
mutual
theorem Ci.leaves_len : ∀ c : Ci, c.leaves.length = c.size
  | .eye _ => rfl
  | .node _ ps => leavess_len ps
theorem leavess_len : ∀ ps : List Ci, (leavess ps).length = sizes ps
  | [] => rfl
  | c :: r => by
    show (c.leaves ++ leavess r).length = c.size + sizes r
    rw [List.length_append, Ci.leaves_len c, leavess_len r]
end
mutual
theorem Ci.leaves_ne : ∀ c : Ci, c.ok → c.leaves ≠ []
  | .eye _, _ => by intro h; cases h
  | .node _ ps, h => by
    intro e
    have h1 := Ci.leaves_len (.node true ps)
    have h2 := sizes_len ps h.2
    have h3 : 2 ≤ ps.length := h.1
    have e : leavess ps = [] := e
    have h1 : (leavess ps).length = sizes ps := h1
    rw [e, List.length_nil] at h1
    omega
end
def IsEyes (c : Ci) (ys : List Str) : Prop := sortedS ys = true ∧ ys.Nodup ∧ ∀ y, y ∈ ys ↔ y ∈ c.leaves
theorem nodup_le {α : Type} [DecidableEq α] : ∀ {a b : List α}, a.Nodup → (∀ y ∈ a, y ∈ b) → a.length ≤ b.length
  | [], _, _, _ => Nat.zero_le _
  | x :: r, b, n, h => by
    obtain ⟨nx, nr⟩ := List.nodup_cons.mp n
    have hx : x ∈ b := h x List.mem_cons_self
    have := nodup_le (a := r) (b := b.erase x) nr fun y hy => (List.mem_erase_of_ne (by intro e; exact nx (e ▸ hy))).mpr (h y (List.mem_cons_of_mem _ hy))
    rw [List.length_erase_of_mem hx] at this
    have : 0 < b.length := List.length_pos_of_mem hx
    rw [List.length_cons]
    omega
theorem IsEyes.len {c : Ci} {ys : List Str} (h : IsEyes c ys) : ys.length ≤ c.size := by
  rw [← Ci.leaves_len]
  exact nodup_le h.2.1 fun y hy => (h.2.2 y).1 hy
theorem IsEyes.ne {c : Ci} {ys : List Str} (h : IsEyes c ys) (hc : c.ok) : ys ≠ [] := by
  intro e
  subst e
  have := Ci.leaves_ne c hc
  cases hl : c.leaves with
  | nil => exact this hl
  | cons y r => exact absurd ((h.2.2 y).2 (by rw [hl]; exact List.mem_cons_self)) (by simp)
end Eyes

set_option Elab.async false
set_option linter.all false
set_option maxRecDepth 100000
set_option maxHeartbeats 4000000
/-! try with several clauses that name what they catch. -/
namespace Eyes
open PySem PySem.Spec PyProof.Rows L2
def endsAs (D : Ends) (j : Nat) : Ends := { nx := fun τ G => D.nx (τ.set j none) G, rt := D.rt, bk := fun τ G => D.bk (τ.set j none) G, ct := fun τ G => D.ct (τ.set j none) G }
def wAll (K : PySem.W.Frag) (D : Ends) : List (Value × Nat × (Addr → Value → Option Addr → TS)) → WX
  | [] => fun _ _ _ _ => False
  | (c, j, ts) :: r => fun cls d τ G => ∃ y, PySem.W.exmOne K cls c = some y ∧ (y = true → ∀ e, G e = none → ts e cls d (endsAs D j) (τ.set j (some (.ref e))) G) ∧ (y = false → wAll K D r cls d τ G)
inductive HdsAs (X : Cx) : List ExceptHandler → List (Value × Nat × (Addr → Value → Option Addr → TS)) → Prop
  | rest {hds : List ExceptHandler} : HdsAs X hds []
  | cons {x n : Str} {c : Value} {j : Nat} {ts : Addr → Value → Option Addr → TS} {st0 : Stmt} {sts : List Stmt} {p1 p2 : Pos} {hds : List ExceptHandler} {l : List (Value × Nat × (Addr → Value → Option Addr → TS))} (hc : Names X x c) (hi : X.N[j]? = some n) (hl : X.env.kindOf n = some .local)
      (su : ∀ (e : Addr) (oe : Obj) (cls : Value) (d : Option Addr) (pn : List (Addr × Obj)), Zc cls d oe → (∃ fs, oe.data = .fields fs) → PSs (X.suite e ((e, oe) :: pn)) (st0 :: sts) (ts e cls d)) (r : HdsAs X hds l) :
      HdsAs X (.ExceptHandler (some (.Name x p1)) (some n) (st0 :: sts) p2 :: hds) ((c, j, ts) :: l)
section
variable {X : Cx} {body : List Stmt} {h1 : ExceptHandler} {hds : List ExceptHandler} {l : List (Value × Nat × (Addr → Value → Option Addr → TS))} {pos : Pos} {tb : WX → TS}
end
end Eyes

set_option Elab.async false
set_option linter.all false
set_option maxRecDepth 100000
set_option maxHeartbeats 4000000
/-! Defs that may raise an own error; own errors that bear what they are given. -/
namespace Eyes
open PySem PySem.Spec PyProof.Rows L2
def PrX (P : Program) (w : World) (K : PySem.W.Frag) (mg : Str → Option Value) (base : Heap) (x : Str) (st : Stmt) (ps : List Str) (k : Nat) (sp : Sp) : Prop :=
  ∃ (f : Addr) (fd : FuncData), mg x = some (.ref f) ∧ Fun K x x st f fd ∧ Binds K fd ps [] ∧ FnOk P w K mg base (L2.CX P w) k f fd ps sp
section
variable {P : Program} {w : World} {K : PySem.W.Frag} {mg : Str → Option Value} {base : Heap}
end
section
variable {X : Cx} {x : Str} {st : Stmt} {ps : List Str} {sp : Sp} {e : Expr} {es : List Expr} {kws : List Keyword} {p pos : Pos} {t tk : TA} {W : WX}
end
/-! ### own errors -/
structure ErrAt (K : PySem.W.Frag) (mg : Str → Option Value) (x : Str) (C : Addr) (qual : Str) (st : Stmt) (ps : List Str) : Prop where
  gC : mg x = some (.ref C)
  oex : OexC K C
  xf : XfC K C
  fn : ∃ (f : Addr) (fd : FuncData), PySem.W.findIn K (.ref C) "__init__" = some (some (.ref f)) ∧ PySem.W.typeIn K (.ref f) = some (.type "function") ∧ Fun K "__init__" qual st f fd ∧ Binds K fd ps []
theorem errAt_mk {K : PySem.W.Frag} {h : Heap} {mg : Str → Option Value} (X : K.In h) (G : h.Ns mainGlobals mg) {x qual : Str} {C f : Addr} {st : Stmt} {ps : List Str} {oc : Value} {od an : Option Addr} {osl : Array (Option Value)} {kV doc pm cdv ct : Value}
    {nm q : Str} {N : Addr} {bs bm sub : List Value} {sn : List Str} {ab : Bool} {col : Option Bool} {dd : Option Addr} {k0 k1 k2 k3 k5 : Option Value}
    (a : PySem.W.nsIn K mainGlobals x = some (some (.ref C))) (c1 : K.lookup C = some (excClassObj nm q C N bs bm true sn sub ab col dd k0 k1 k2 k3 k5 "ValueError.__new__")) (c2 : PySem.HandSPX.refsVE bm = true)
    (c3 : PySem.W.findIn K (.ref C) "__setattr__" = some (some (.builtin "object.__setattr__"))) (c4 : PySem.W.subIn K (.ref C) (.type "BaseException") = some true) (c5 : PySem.W.typeIn K (.ref C) = some (.type "type")) (c6 : PySem.W.keepIn K (.ref C) = true)
    (c7 : xfB K C = true) (i1 : PySem.W.findIn K (.ref C) "__init__" = some (some (.ref f))) (i2 : PySem.W.typeIn K (.ref f) = some (.type "function"))
    (l : K.lookup f = some ⟨oc, od, .func (PySem.W.fnOf "__init__" qual (defArgs st) (defBody st) (defScope st) .none kV doc pm an cdv ct), osl⟩) (c : PySem.W.codeIn K cdv qual = true) (k : PySem.W.keepIn K (.ref f) = true) (hb : BindH "__init__" qual st ps) : ErrAt K mg x C qual st ps :=
  ⟨PySem.W.mg_of X G a, ⟨⟨_, _, _, _, _, _, _, _, _, _, _, _, _, _, _, c1, c2⟩, c3, c4, c5, c6⟩, xfB_ok c7, f, _, i1, i2, fun_mk l c k, (fun_mk l c k).binds hb⟩
def spErr1 (C : Addr) (g : Str) : Sp := fun vs H Q _ => ∃ (a : Addr) (v : V), vs = [.ref a, v] ∧ H a = some (exo a C none) ∧ ∀ d, H d = none → d ≠ a → Q .non (upd (upd H d (exd d [(g, v)])) a (exo a C (some d)))
section
variable {X : Cx} {W : WX} {e : Expr} {ta : TA} {p pos pos2 : Pos} {x g qual : Str} {C : Addr} {st : Stmt} {ps : List Str} {j k : Nat}
end
end Eyes

set_option Elab.async false
set_option linter.all false
set_option maxRecDepth 100000
set_option maxHeartbeats 4000000
/-! Lambdas handed on through several defs. -/
namespace Eyes
open PySem PySem.Spec PyProof.Rows L2 LamX
def CallF (P : Program) (w : World) (K : PySem.W.Frag) (mg : Str → Option Value) (base : Heap) (k : Nat) (fr : List Addr) (H0 : Hp) (h0 : Heap) (f c' : Addr) (q : Str) (tl : XK → Hp → VK → Prop) : Prop :=
  ∀ (A : Around) (outer : List Env) (s1 : Shared) (HZ : Hp) (Q : VK) (E : XK), Room (k + 1) A → Env0 P w K mg base A outer s1 HZ → Un fr [] H0 HZ h0 s1.heap → HZ c' = some (CodeO c' q) → tl E HZ Q →
    PySem.W.FnAt f s1.heap ∧ codeAny (model P w) A (.call (.ref f) ⟨[], []⟩) (CR (L2.CX P w) outer P w HZ s1 Q E) s1
section
variable {X : Cx} {pins : List (Addr × Obj)} {σ : L2.St} {H : Hp} {s : Shared}
end
theorem CallF.step {P : Program} {w : World} {K : PySem.W.Frag} {mg : Str → Option Value} {base : Heap} {k : Nat} {fr fr' : List Addr} {H0 H1 : Hp} {h0 h1 : Heap} {f c' : Addr} {q : Str} {tl : XK → Hp → VK → Prop} (C : CallF P w K mg base k fr H0 h0 f c' q tl) (u : Un fr [] H0 H1 h0 h1)
    (hs : ∀ b ∈ fr', b ∈ fr ∨ h0.get? b = none) (hs2 : ∀ b ∈ fr, b ∈ fr') : CallF P w K mg base k fr' H1 h1 f c' q tl := by
  intro A outer s1 HZ Q E hr e0 un hc ht
  have v := (u.mono (fs' := fr') (ex' := []) hs2 fun _ z => z).trans un
  exact C A outer s1 HZ Q E hr e0 ⟨fun b o q n hb hx => v.keep b o q n (fun z => (hs b z).elim hb fun z2 => by rw [z2] at q; cases q) hx, fun b o q n hb hx => v.any q n hx, v.free, v.there, v.tups, v.frzs, v.tbls⟩ hc ht
def FnC (P : Program) (w : World) (K : PySem.W.Frag) (mg : Str → Option Value) (base : Heap) (kk k : Nat) (g : Addr) (TT : (XK → Hp → VK → Prop) → Hp → VK → Prop) : Prop :=
  ∀ (A : Around) (outer : List Env) (s : Shared) (H : Hp) (f c' : Addr) (q : Str) (tl : XK → Hp → VK → Prop) (Q : VK), Room k A → Env0 P w K mg base A outer s H → CallF P w K mg base kk (frs outer) H s.heap f c' q tl → H c' = some (CodeO c' q) → TT tl H Q →
    codeAny (model P w) A (.call (.ref g) ⟨[.ref f], []⟩) (CR C8.CX0 outer P w H s Q C8.E0) s
def PrC (P : Program) (w : World) (K : PySem.W.Frag) (mg : Str → Option Value) (base : Heap) (x : Str) (kk k : Nat) (TT : (XK → Hp → VK → Prop) → Hp → VK → Prop) : Prop :=
  ∃ g : Addr, mg x = some (.ref g) ∧ PySem.W.keepIn K (.ref g) = true ∧ FnC P w K mg base kk k g TT
section
variable {X : Cx}
end
end Eyes

set_option Elab.async false
set_option linter.all false
set_option maxRecDepth 100000
set_option maxHeartbeats 4000000
/-! A lambda whose one parameter has a number as its default, made and handed on. -/
namespace Eyes
open PySem PySem.Spec PyProof.Rows L2 LamX
abbrev fnL (q : Str) (params : Arguments) (body : Expr) (scope : Scope) (cl : List (Str × Addr)) (dV pm cdv ctv : Value) : FuncData :=
  { name := "<lambda>", qualname := q, params, body := .expr body, scope, globals := mainGlobals, closure := cl, defaults := dV, kwdefaults := .none, doc := .none, pyModule := pm, annotations := none, code := cdv, closureTuple := ctv, builtins := builtinsNs }
abbrev obL (q : Str) (params : Arguments) (body : Expr) (scope : Scope) (cl : List (Str × Addr)) (dV pm cdv ctv : Value) : Obj := { cls := .type "function", data := .func (fnL q params body scope cl dV pm cdv ctv) }
abbrev obT (u : Value) : Obj := { cls := .type "tuple", data := .seq [u].toArray }
section
variable {M : Model} {A : Around} {E : Value → Shared → Prop} {s : Shared} {q : Str} {params : Arguments} {body : Expr} {scope : Scope} {env : Env} {c P : Addr} {ps : Array Value} {pos : Pos} {line : Nat} {mg : Str → Option Value} {cl : List (Str × Addr)} {Q : Value → Shared → Prop} {dV : Value}
end
structure LamN (N : List Str) (sc scope : Scope) : Prop where
  kind : scope.kind = .function
  co : scope.isCoroutine = false
  gen : scope.isGenerator = false
  cel : ∀ y ∈ scope.names, y.2 ≠ .cell
  loc : ∀ y ∈ scope.names, y.2 = .local → y.1 ∉ N
  free : ∀ y ∈ scope.names, y.2 = .free → sc.names.lookup y.1 = some .cell ∨ sc.names.lookup y.1 = some .free
def lamNB (N : List Str) (sc scope : Scope) : Bool :=
  decide (scope.kind = .function) && (!scope.isCoroutine && (!scope.isGenerator && scope.names.all fun y => !decide (y.2 = .cell) && ((!decide (y.2 = .local) || !N.contains y.1) && (!decide (y.2 = .free) || (decide (sc.names.lookup y.1 = some .cell) || decide (sc.names.lookup y.1 = some .free))))))
theorem LamN.has {N : List Str} {X : Cx} {scope : Scope} (L : LamN N X.env.scope scope) (ok : X.Ok) : ∀ y ∈ scope.names, y.2 = .free → ∃ c, X.env.cells.lookup y.1 = some c := fun y hy e => by
  rcases L.free y hy e with k | k
  · exact ok.has _ (.inl k)
  · exact ok.has _ (.inr k)
section
variable {X : Cx} {pins : List (Addr × Obj)} {σ : L2.St} {H : Hp} {s : Shared}
def BindD (params : Arguments) (body : Expr) (scope : Scope) (a : Str) : Prop :=
  (∀ (q : Str) (cl : List (Str × Addr)) (t : Addr) (pm cv ctv u : Value), ∃ k, bindArgs (fnL q params body scope cl (.ref t) pm cv ctv) ⟨[], []⟩ = seqItems? (.ref t) >>= k ∧ k (some [u].toArray) = pure [(a, u)]) ∧ scope.names.lookup a = some .local
end
section
variable {X : Cx}
end
end Eyes

set_option Elab.async false
set_option linter.all false
set_option maxRecDepth 100000
set_option maxHeartbeats 4000000
/-! What was handed on is asked within a try. -/
namespace Eyes
open PySem PySem.Spec PyProof.Rows L2 LamX
end Eyes

set_option Elab.async false
set_option linter.all false
set_option maxRecDepth 100000
set_option maxHeartbeats 4000000
/-! Defs that make lambdas: their code object is named. -/
namespace Eyes
open PySem PySem.Spec PyProof.Rows L2 LamX
def FnAtC (K : PySem.W.Frag) (mg : Str → Option Value) (x : Str) (st : Stmt) (ps : List Str) (c : Addr) : Prop :=
  ∃ (f : Addr) (oc : Value) (od : Option Addr) (kV doc pm : Value) (an : Option Addr) (ct : Value) (osl : Array (Option Value)), K.lookup f = some ⟨oc, od, .func (PySem.W.fnOf x x (defArgs st) (defBody st) (defScope st) .none kV doc pm an (.ref c) ct), osl⟩ ∧ PySem.W.codeIn K (.ref c) x = true ∧ PySem.W.keepIn K (.ref f) = true ∧
    Binds K (PySem.W.fnOf x x (defArgs st) (defBody st) (defScope st) .none kV doc pm an (.ref c) ct) ps [] ∧ mg x = some (.ref f)
section
variable {P : Program} {w : World} {K : PySem.W.Frag} {mg : Str → Option Value} {base : Heap}
end
end Eyes

set_option Elab.async false
set_option linter.all false
set_option maxRecDepth 100000
set_option maxHeartbeats 4000000
/-! Defs of a star parameter alone, which may raise. -/
namespace Eyes
open PySem PySem.Spec PyProof.Rows L2
def FnAtR (K : PySem.W.Frag) (mg : Str → Option Value) (x : Str) (st : Stmt) : Prop := ∃ (f : Addr) (fd : FuncData), Fun K x x st f fd ∧ mg x = some (.ref f)
def PrR (P : Program) (w : World) (K : PySem.W.Frag) (mg : Str → Option Value) (base : Heap) (x : Str) (k : Nat) (sp : Sp) : Prop :=
  ∃ f : Addr, mg x = some (.ref f) ∧ PySem.W.keepIn K (.ref f) = true ∧ FnR P w K mg base (L2.CX P w) k f sp
def spStar (sp : Sp) : Sp := fun vs H Q E => vs.length ≤ sizeLine ∧ ∀ p, H p = none → sp [.ref p] (upd H p (.tup vs)) Q E
abbrev BindStar (x : Str) (st : Stmt) (a : Str) : Prop := ∀ (kV doc pm : Value) (an : Option Addr) (cdv ct : Value) (rest : List Value), bindArgs (PySem.W.fnOf x x (defArgs st) (defBody st) (defScope st) .none kV doc pm an cdv ct) ⟨rest, []⟩ = (newTuple rest >>= fun t => pure [(a, t)])
section
variable {P : Program} {w : World} {K : PySem.W.Frag} {mg : Str → Option Value} {base : Heap}
end
section
variable {X : Cx} {x : Str} {sp : Sp} {E : XK} {e : Expr} {es : List Expr} {p pos : Pos} {t : TA} {j k : Nat}
end
end Eyes

set_option Elab.async false
set_option linter.all false
set_option maxRecDepth 100000
set_option maxHeartbeats 4000000
/-! enumerate(tuple) in a for. -/
namespace Eyes
open PySem PySem.Spec PyProof.Rows L2
theorem meets_enum1 {v : Value} {o : Obj} {HB : Heap → Prop} (B : Begins v o HB) :
    Meets (Builtin.«enumerate.__new__» ⟨[.type "enumerate", v], []⟩) (fun _ R s => HB s.heap ∧
      R (.ok (.ret (.ref (s.heap.push o).objs.size))) { s with heap := (s.heap.push o).push { cls := .type "enumerate", data := .fields #[.none, .bool false, .ref s.heap.objs.size, rawInt 0, .none, .none] } }) :=
  .of_wp fun prog w A R s h => by
    obtain ⟨hp, g, d, tk, os⟩ := s
    obtain ⟨h1, h⟩ := h
    have sub1 := sub_enumerate
    have it1 : ∀ {A' : Around} {E : Value → Shared → Prop} {Q : Value → Shared → Prop}, Q (.ref hp.objs.size) ⟨hp.push o, g, d, tk, os⟩ → wpAny (model prog w) A' (pyIter v) Q E ⟨hp, g, d, tk, os⟩ := fun q => B.iter prog w _ _ ⟨hp, g, d, tk, os⟩ _ h1 q
    wp_walk using it1
    refine wpAny_stack_any fun st => wpAny_pure ?_
    split
    · rename_i c _ _ _ _ _
      cases (c == Value.type "enumerate")
      · wp_walk using it1
        exact ⟨_, rfl, h⟩
      · wp_walk using it1
        exact ⟨_, rfl, h⟩
    · wp_walk using it1
      exact ⟨_, rfl, h⟩
section
variable {prog : Program} {w : World} {A : Around} {E : Value → Shared → Prop} {s : Shared}
theorem enum1_begins {v : Value} {o : Obj} {HB : Heap → Prop} {Q : Value → Shared → Prop} (B : Begins v o HB) (h1 : HB s.heap)
    (q : ∀ h', IsEnum h' (s.heap.objs.size + 1) s.heap.objs.size 0 .none → h'.get? s.heap.objs.size = some o → h'.objs.size = s.heap.objs.size + 2 → (∀ b u, s.heap.get? b = some u → h'.get? b = some u) → Q (.ref (s.heap.objs.size + 1)) { s with heap := h' }) :
    wpAny (model prog w) A (call (.type "enumerate") [v]) Q E s := by
  refine callType_new PySem.F.called_enumerate (by decide) (PySem.F.typeCall_enumerate_1 _) (PySem.F.newCall_enumerate_1 _) (fun ob => PySem.F.args_object_init_2 ob _) PySem.F.entry_enumerate_new (meets_enum1 B) ⟨h1, ?_⟩
  have z1 : (s.heap.push o).objs.size = s.heap.objs.size + 1 := Heap.size_push ..
  show _ ∧ _
  rw [z1]
  have en : IsEnum ((s.heap.push o).push { cls := .type "enumerate", data := .fields #[.none, .bool false, .ref s.heap.objs.size, rawInt 0, .none, .none] }) (s.heap.objs.size + 1) s.heap.objs.size 0 .none := by
    have y := Heap.get?_push_size (s.heap.push o) (o := { cls := .type "enumerate", data := .fields #[.none, .bool false, .ref s.heap.objs.size, rawInt 0, .none, .none] }) rfl
    rw [z1] at y
    exact y
  exact ⟨⟨_, en, rfl⟩, q _ en (Heap.get?_push_of_some _ (Heap.get?_push_size _ B.free)) (by rw [Heap.size_push, z1]) fun b u x => Heap.get?_push_of_some _ (Heap.get?_push_of_some _ x)⟩
end
def IteT (K : PySem.W.Frag) (a : Addr) (k : Int) : It :=
  ⟨fun i H => ∃ (xs : List V) (x : V), SqT K H a xs ∧ xs[i]? = some x, fun i H v H' => ∃ T x, v = .ref T ∧ H T = none ∧ H' = upd H T (.tup [.int (k + (i : Nat)), x]) ∧ ∀ xs, SqT K H a xs → xs[i]? = some x, fun i H => ∃ xs : List V, SqT K H a xs ∧ xs.length ≤ i⟩
theorem turn_enumT {P : Program} {w : World} {K : PySem.W.Frag} {elts : List Expr} {kk : Nat} {tpos : Pos} (a e it : Addr) (k : Int) (nai : a ≠ it) :
    Turn P w K (.Tuple elts kk tpos) (IteT K a k) [e, it] e (fun i h => (∃ old, IsEnum h e it (k + (i : Nat)) old) ∧ h.IsTupleIter it a i ∧ e ≠ it ∧ a ≠ e) where
  mem := by simp
  obj := fun i h st b hb => by
    obtain ⟨⟨old, he⟩, ⟨o, ho, hc, hd⟩, _⟩ := st
    rcases (show b = e ∨ b = it by simpa using hb) with z | z
    · rw [z]
      exact ⟨_, he, fun v q => nomatch q⟩
    · rw [z]
      exact ⟨o, ho, fun v q => by rw [hd] at q; cases q⟩
  keep := fun i h h' st kp => by
    obtain ⟨⟨old, he⟩, hi, hne, hna⟩ := st
    exact ⟨⟨old, kp e (by simp) _ he⟩, hi.at fun o q => kp it (by simp) o q, hne, hna⟩
  item := by
    intro X hP hw hK hc i pins s σ H E I hf st hg
    subst hP hw hK
    obtain ⟨⟨old, he⟩, hit, hne, hna⟩ := st
    obtain ⟨xs, x, hq, hx⟩ := hg
    obtain ⟨its, rv, p, hz⟩ := I.tuple hq
    obtain ⟨u, hu, ru⟩ := rv.get hx
    have el : e < s.heap.objs.size := Heap.lt_size he
    have il : it < s.heap.objs.size := by
      obtain ⟨_, q, _⟩ := hit
      exact Heap.lt_size q
    have isT : s.heap.IsTuple a its.toArray := by
      obtain ⟨o, e1, e2, n, e3⟩ := p
      exact ⟨o, e1, e2, n, e3⟩
    have lti : i < its.length := by
      rcases Nat.lt_or_ge i its.length with z | z
      · exact z
      · rw [List.getElem?_eq_none z] at hu
        cases hu
    have D := Draws.tuple (prog := X.prog) (w := X.w) (A := X.A.in1) (by have := I.ok.hd hc; simpa using this) it a nai its.toArray
    refine wpAny_pyNext_enum_itemC D he ⟨hit, isT⟩ (by simpa using lti) hne (by simp [hne, Ne.symm hna]) fun y h' tk hy ho hst hT hsz hk => ?_
    have ey : y = u := by
      have z : its.toArray[i]? = some y := hy
      rw [List.getElem?_toArray, hu] at z
      exact (Option.some.inj z).symm
    subst ey
    refine ⟨_, rfl, wpAny_letOwnedTupleGo_enum (s := { s with heap := h', toks := tk + 1 }) ho fun h2 he2 sb => ?_⟩
    have T2 : h2.get? s.heap.objs.size = some { cls := .type "tuple", data := .seq #[.int (k + (i : Nat)) tk, y] } := (sb.2 _ (Nat.ne_of_gt el)).trans hT
    have new : ObjOk X.prog X.w (upd H s.heap.objs.size (.tup [.int (k + (i : Nat)), x])) h2 s.heap.objs.size (.tup [.int (k + (i : Nat)), x]) :=
      ⟨by show 2 ≤ sizeLine; decide, [.int (k + (i : Nat)) tk, y], .cons ⟨_, rfl⟩ (.cons ru .nil), ⟨_, T2, rfl, _, rfl⟩⟩
    have I1 : Inv X pins σ (upd H s.heap.objs.size (.tup [.int (k + (i : Nat)), x])) { s with heap := h2, toks := tk + 1 } :=
      I.turnedNew (ch := [e, it]) (fun b ob hb q => (sb.2 b (fun z => hb (by simp [z]))).trans (hk b ob (fun z => hb (by simp [z])) (fun z => hb (by simp [z])) q)) hf (Nat.le_refl _) new
    refine ⟨.ref s.heap.objs.size, _, I1, rfl, ⟨_, x, rfl, I.hok.fresh (Nat.le_refl _), rfl, fun ys hy => by rw [I.tuple_inj hy hq]; exact hx⟩, ⟨⟨y, ?_⟩, hst.1.at fun o q => (sb.2 it (Ne.symm hne)).trans q, hne, hna⟩, fun b hb => ?_⟩
    · rw [show (k + ((i + 1 : Nat) : Int)) = k + (i : Nat) + 1 by omega]
      exact he2
    · have lt : b < s.heap.objs.size := by
        rcases (show b = e ∨ b = it by simpa using hb) with z | z
        · rw [z]; exact el
        · rw [z]; exact il
      rw [upd_ne (Nat.ne_of_lt lt)]
      exact (hf b hb).1
  done := by
    intro X hP hw hK hc i pins s σ H E I hf st hg
    subst hP hw hK
    obtain ⟨⟨old, he⟩, hit, hne, hna⟩ := st
    obtain ⟨xs, hq, hx⟩ := hg
    obtain ⟨its, rv, p, hz⟩ := I.tuple hq
    have isT : s.heap.IsTuple a its.toArray := by
      obtain ⟨o, e1, e2, n, e3⟩ := p
      exact ⟨o, e1, e2, n, e3⟩
    obtain ⟨f0, f1, f2, f3, f4, f5⟩ := hf it (by simp)
    have hl := rv.length
    have hh : X.A.in1.in1.handled = none := by have := I.ok.hd hc; simpa using this
    -- what is behind the end: a draw of a tuple as long as the count
    have stop : ∀ (Q : Value → Shared → Prop) (E : Value → Shared → Prop), (∀ h' e, Heap.ExtBut it s.heap h' → (∃ o, h'.get? e = some o ∧ o.cls = .type "StopIteration") → E (.ref e) { s with heap := h' }) → wpAny (model X.prog X.w) X.A.in1 (Builtin.SmallTypes.nextOf (.ref it)) Q E s :=
      fun Q E hE => wpAny_nextOf_tuple_end (by have := I.ok.hd hc; simpa using this) hit isT (by simp; omega) hE
    have hT : s.TypeIs (.ref e) "enumerate" := ⟨_, he, rfl⟩
    unfold pyNext
    refine wpAny_bind (wpAny_attempt (wpAny_callSpecial?_slot (name := Str.ofString "__next__") hT PySem.F.slot_enumerate_next (wpAny_call_entry PySem.F.slot_enumerate_next hT PySem.F.entry_enumerate_next ?_ (PySem.F.args_enumerate_next_1 _))))
    show wpAny _ _ (field (.ref e) 2 >>= _) _ _ _
    refine wpAny_bind (wpAny_field he rfl (x := .ref it) rfl (wpAny_bind (stop _ _ fun h' x eb hx' => ?_)))
    obtain ⟨o, ho, hc'⟩ := hx'
    refine wpAny_bind (wpAny_isInstance (T := "StopIteration") (b := true) ⟨o, ho, hc'⟩ isSubtype_stop (wpAny_pure ?_))
    exact ⟨rfl, I.turned (t' := s.toks) (fun b o hb q => eb b o hb q) f0 f1 f3 f4 f5⟩
  self := fun A i s Q E st h => by
    obtain ⟨⟨_, he⟩, _⟩ := st
    exact wpAny_pyIter_enum he h
def iEnumT (K : PySem.W.Frag) (ta : TA) : TI := fun σ H R => ta σ H fun vs H1 => ∃ a xs, vs = [.ref a] ∧ SqT K H1 a xs ∧ R (IteT K a 0) H1
theorem pi_enumT {X : Cx} {e : Expr} {ta : TA} {p pos tpos : Pos} {elts : List Expr} {kk : Nat} (hg : Gl X "enumerate") (hm : X.mg "enumerate" = none) (ha : PA X [e] ta) (hs : starEach [e] X.env = [(false, eval e X.env)] := by rfl) :
    PI X (.Tuple elts kk tpos) (.Call (.Name "enumerate" p) [e] [] pos) (iEnumT X.K ta) := by
  refine ⟨fun pins s σ H R I h => ?_⟩
  refine Call_ (ld_blt I hg hm boot_enumerate (PyProof.Rows.callWith_type1 (thn (ha.run pos pins s σ H _ I h) fun us s1 ⟨vs, H1, I1, r1, a, xs, ex, hq, q⟩ => ?_) hs rfl))
  subst ex
  obtain rfl := Vals.ref1 r1
  obtain ⟨its, rv, tp, hz⟩ := I1.tuple hq
  have isT : s1.heap.IsTuple a its.toArray := by
    obtain ⟨o, e1, e2, n, e3⟩ := tp
    exact ⟨o, e1, e2, n, e3⟩
  have al : a < s1.heap.objs.size := by
    obtain ⟨o, e1, _⟩ := isT
    exact Heap.lt_size e1
  refine enum1_begins (begins_tuple a its.toArray) isT fun h' he hit hsz hk => wpAny_pyIter_enum he ?_
  have I2 : Inv X pins σ H1 { s1 with heap := h' } := I1.kept (t' := s1.toks) hk
  refine ⟨s1.heap.objs.size + 1, [s1.heap.objs.size + 1, s1.heap.objs.size], _, _, H1, rfl, I2, turn_enumT a (s1.heap.objs.size + 1) s1.heap.objs.size 0 (Nat.ne_of_lt al), ⟨⟨.none, by simpa using he⟩, ⟨_, hit, rfl, rfl⟩, Nat.succ_ne_self _, Nat.ne_of_lt (Nat.lt_succ_of_lt al)⟩, fun b hb => ?_, q⟩
  have hle : s1.heap.objs.size ≤ b := by
    rcases (show b = s1.heap.objs.size + 1 ∨ b = s1.heap.objs.size by simpa using hb) with z | z
    · rw [z]; exact Nat.le_add_right _ _
    · rw [z]; exact Nat.le_refl _
  exact I1.fpOk hle (I1.hok.fresh hle)
theorem walk_enumT {K : PySem.W.Frag} {a : Addr} {k : Int} {xs : List V} : Walk (IteT K a k) xs.length (fun H => SqT K H a xs) (YPair (fun i => some (.int (k + (i : Nat)))) (fun i => xs[i]?)) := by
  refine ⟨fun i H hi q => ⟨xs, xs[i], q, by simp [hi]⟩, fun H q => ⟨xs, q, Nat.le_refl _⟩, fun i H v H' hi q y => ?_⟩
  obtain ⟨T, x, h1, h2, h3, h4⟩ := y
  exact ⟨T, _, x, h1, h2, h3, rfl, h4 xs q⟩
end Eyes

set_option Elab.async false
set_option linter.all false
set_option maxRecDepth 100000
set_option maxHeartbeats 4000000
/-! sorted(set(texts)). -/
namespace Eyes
open PySem PySem.Spec PyProof.Rows L2
def txtE (e : Int × Value) : Str := match e.2 with | .str z _ => z | _ => Str.empty
def IsTxt (w : World) (e : Int × Value) : Prop := ∃ z tk, e.2 = Value.str z tk ∧ e.1 = hashStr w z
def TxtSet (w : World) (h : Heap) (a : Addr) (L : List Str) : Prop :=
  ∃ ob ee pp tt, h.get? a = some ob ∧ ob.ExactSet ∧ ob.data = .set ee pp tt ∧ (∀ e ∈ ee.toList, IsTxt w e) ∧ ee.toList.map txtE = L ∧ L.Nodup ∧ ee.size < scanBound ∧ tt.fits ee.size = true ∧ Ris tt.place.toList ∧ (w.params.followText "set-order" = true ∨ tt.led = true)
section
variable {P : Program} {w : World}
end
section
variable {P : Program} {w : World} {A : Around} {E : Value → Shared → Prop} {s : Shared} {a : Addr}
theorem TxtSet.at {h h' : Heap} {L : List Str} (T : TxtSet w h a L) (k : ∀ o, h.get? a = some o → h'.get? a = some o) : TxtSet w h' a L := by
  obtain ⟨o, e, p, t, ho, r⟩ := T
  exact ⟨o, e, p, t, k o ho, r⟩
abbrev noSet (w : World) : Obj := { cls := .type "set", dict := none, data := .set #[] 0 (.fresh 0 0 (!w.params.followText "set-order")) }
end
/-! ### set(texts) -/
section
variable {P : Program} {w : World} {A : Around} {R : Result → Shared → Prop} {I : Addr} {fp wr : List Addr} {G : Array GenState → Array GenState → Prop} {n : Nat} {Pv : Nat → Value → Prop} {St : Nat → Shared → Prop}
end
end Eyes

set_option Elab.async false
set_option linter.all false
set_option maxRecDepth 100000
set_option maxHeartbeats 8000000
namespace Eyes
open PySem PySem.Spec PyProof.Rows L2
section
variable {P : Program} {w : World} {A : Around} {E : Value → Shared → Prop} {s : Shared}
end
def tSortedSet (K : PySem.W.Frag) (te : TE) : TE := fun σ H Q => te σ H fun x H1 => ∃ (a : Addr) (xs : List Str), x = .ref a ∧ SqL K H1 a (xs.map V.str) ∧ xs.length < 64 ∧
  ∀ (ys : List Str) (p : Addr), sortedS ys = true → ys.Nodup → (∀ y, y ∈ ys ↔ y ∈ xs) → H1 p = none → Q (.ref p) (upd H1 p (.lst (ys.map V.str)))
section
variable {X : Cx} {K : PySem.W.Frag} {e : Expr} {te : TE} {p1 p2 q1 q2 : Pos}
end
end Eyes

set_option Elab.async false
set_option linter.all false
set_option maxRecDepth 100000
set_option maxHeartbeats 4000000
namespace Eyes
open PySem PySem.Spec PyProof.Rows L2 Evl TL
def topS (i : Nat) : Stmt := PySem.Challenge.pw_pooledeyes_k09_whole_worlds_from_ties.main.body.getD i (.Pass ⟨0, 0, 0, 0⟩)
abbrev s_wall : Stmt := topS 0
abbrev n_wall : List Str := ["k"]
abbrev p_wall : List Str := ["k"]
abbrev s_InvalidName___init : Stmt := inClass (topS 3) 0
abbrev n_InvalidName___init : List Str := ["self", "value"]
abbrev p_InvalidName___init : List Str := ["self", "value"]
abbrev s_InvalidNumber___init : Stmt := inClass (topS 4) 0
abbrev n_InvalidNumber___init : List Str := ["self", "value"]
abbrev p_InvalidNumber___init : List Str := ["self", "value"]
abbrev s_InvalidText___init : Stmt := inClass (topS 5) 0
abbrev n_InvalidText___init : List Str := ["self", "at"]
abbrev p_InvalidText___init : List Str := ["self", "at"]
abbrev s_InvalidTie___init : Stmt := inClass (topS 6) 0
abbrev n_InvalidTie___init : List Str := ["self", "at"]
abbrev p_InvalidTie___init : List Str := ["self", "at"]
abbrev s_InvalidParting___init : Stmt := inClass (topS 7) 0
abbrev n_InvalidParting___init : List Str := ["self", "value"]
abbrev p_InvalidParting___init : List Str := ["self", "value"]
abbrev s_InvalidCase___init : Stmt := inClass (topS 8) 0
abbrev n_InvalidCase___init : List Str := ["self", "value"]
abbrev p_InvalidCase___init : List Str := ["self", "value"]
abbrev s_TooMany___init : Stmt := inClass (topS 9) 0
abbrev n_TooMany___init : List Str := ["self", "what", "most"]
abbrev p_TooMany___init : List Str := ["self", "what", "most"]
abbrev s_is_name : Stmt := topS 13
abbrev n_is_name : List Str := ["value", "letter"]
abbrev p_is_name : List Str := ["value"]
theorem sc_is_name : FnScope n_is_name p_is_name (defScope s_is_name) := ⟨rfl, rfl, rfl, by decide +kernel, rfl, by decide +kernel, by decide +kernel⟩
abbrev s_is_number : Stmt := topS 14
abbrev n_is_number : List Str := ["value", "least", "most"]
abbrev p_is_number : List Str := ["value", "least", "most"]
theorem sc_is_number : FnScope n_is_number p_is_number (defScope s_is_number) := ⟨rfl, rfl, rfl, by decide +kernel, rfl, by decide +kernel, by decide +kernel⟩
abbrev s_is_parting : Stmt := topS 16
abbrev n_is_parting : List Str := ["value", "at"]
abbrev p_is_parting : List Str := ["value"]
theorem sc_is_parting : FnScope n_is_parting p_is_parting (defScope s_is_parting) := ⟨rfl, rfl, rfl, by decide +kernel, rfl, by decide +kernel, by decide +kernel⟩
abbrev s_is_item : Stmt := topS 17
abbrev n_is_item : List Str := ["row", "at"]
abbrev p_is_item : List Str := ["row", "at"]
theorem sc_is_item : FnScope n_is_item p_is_item (defScope s_is_item) := ⟨rfl, rfl, rfl, by decide +kernel, rfl, by decide +kernel, by decide +kernel⟩
abbrev s_apart : Stmt := topS 18
abbrev n_apart : List Str := ["many"]
abbrev p_apart : List Str := ["many"]
theorem sc_apart : FnScope n_apart p_apart (defScope s_apart) := ⟨rfl, rfl, rfl, by decide +kernel, rfl, by decide +kernel, by decide +kernel⟩
abbrev s_linked : Stmt := topS 19
abbrev n_linked : List Str := ["many", "pairs", "lead", "pair", "ends", "end", "case"]
abbrev p_linked : List Str := ["many", "pairs"]
theorem sc_linked : FnScope n_linked p_linked (defScope s_linked) := ⟨rfl, rfl, rfl, by decide +kernel, rfl, by decide +kernel, by decide +kernel⟩
abbrev s_by_keys : Stmt := topS 20
abbrev n_by_keys : List Str := ["keys", "firsts", "found", "case", "key"]
abbrev p_by_keys : List Str := ["keys"]
abbrev s_met : Stmt := topS 21
abbrev n_met : List Str := ["partings"]
abbrev p_met : List Str := ["partings"]
abbrev s_joined : Stmt := topS 22
abbrev n_joined : List Str := ["partings", "pairs", "parting", "case", "item"]
abbrev p_joined : List Str := ["partings"]
theorem sc_joined : FnScope n_joined p_joined (defScope s_joined) := ⟨rfl, rfl, rfl, by decide +kernel, rfl, by decide +kernel, by decide +kernel⟩
abbrev s_within : Stmt := topS 23
abbrev n_within : List Str := ["first", "second", "at", "item"]
abbrev p_within : List Str := ["first", "second"]
abbrev s_beside : Stmt := topS 24
abbrev n_beside : List Str := ["first", "second", "item"]
abbrev p_beside : List Str := ["first", "second"]
abbrev s_check_names : Stmt := topS 26
abbrev n_check_names : List Str := ["values", "value"]
abbrev p_check_names : List Str := ["values"]
theorem sc_check_names : FnScope n_check_names p_check_names (defScope s_check_names) := ⟨rfl, rfl, rfl, by decide +kernel, rfl, by decide +kernel, by decide +kernel⟩
abbrev s_check_cases : Stmt := topS 27
abbrev n_check_cases : List Str := ["many", "values", "value"]
abbrev p_check_cases : List Str := ["many", "values"]
theorem sc_check_cases : FnScope n_check_cases p_check_cases (defScope s_check_cases) := ⟨rfl, rfl, rfl, by decide +kernel, rfl, by decide +kernel, by decide +kernel⟩
abbrev s_check_many : Stmt := topS 28
abbrev n_check_many : List Str := ["many"]
abbrev p_check_many : List Str := ["many"]
theorem sc_check_many : FnScope n_check_many p_check_many (defScope s_check_many) := ⟨rfl, rfl, rfl, by decide +kernel, rfl, by decide +kernel, by decide +kernel⟩
abbrev s_check_ties : Stmt := topS 29
abbrev n_check_ties : List Str := ["many", "values", "at", "value"]
abbrev p_check_ties : List Str := ["many", "values"]
theorem sc_check_ties : FnScope n_check_ties p_check_ties (defScope s_check_ties) := ⟨rfl, rfl, rfl, by decide +kernel, rfl, by decide +kernel, by decide +kernel⟩
abbrev s_is_tie : Stmt := topS 30
abbrev n_is_tie : List Str := ["value", "many"]
abbrev p_is_tie : List Str := ["value", "many"]
theorem sc_is_tie : FnScope n_is_tie p_is_tie (defScope s_is_tie) := ⟨rfl, rfl, rfl, by decide +kernel, rfl, by decide +kernel, by decide +kernel⟩
abbrev s_is_parting_to : Stmt := topS 31
abbrev n_is_parting_to : List Str := ["value", "many"]
abbrev p_is_parting_to : List Str := ["value", "many"]
theorem sc_is_parting_to : FnScope n_is_parting_to p_is_parting_to (defScope s_is_parting_to) := ⟨rfl, rfl, rfl, by decide +kernel, rfl, by decide +kernel, by decide +kernel⟩
abbrev s_tied_partings : Stmt := topS 32
abbrev n_tied_partings : List Str := ["many", "ties", "pairs", "name", "one", "other"]
abbrev p_tied_partings : List Str := ["many", "ties"]
theorem sc_tied_partings : FnScope n_tied_partings p_tied_partings (defScope s_tied_partings) := ⟨rfl, rfl, rfl, by decide +kernel, rfl, by decide +kernel, by decide +kernel⟩
abbrev s_counting : Stmt := topS 33
abbrev n_counting : List Str := ["many", "partings", "idle", "name"]
abbrev p_counting : List Str := ["many", "partings"]
theorem sc_counting : FnScope n_counting p_counting (defScope s_counting) := ⟨rfl, rfl, rfl, by decide +kernel, rfl, by decide +kernel, by decide +kernel⟩
abbrev s_read_many : Stmt := topS 34
abbrev n_read_many : List Str := ["line", "many"]
abbrev p_read_many : List Str := ["line"]
theorem sc_read_many : FnScope n_read_many p_read_many (defScope s_read_many) := ⟨rfl, rfl, rfl, by decide +kernel, rfl, by decide +kernel, by decide +kernel⟩
abbrev s_read_parting : Stmt := topS 35
abbrev n_read_parting : List Str := ["line", "many", "cases", "name", "words", "case", "word"]
abbrev p_read_parting : List Str := ["line", "many"]
theorem sc_read_parting : FnScope n_read_parting p_read_parting (defScope s_read_parting) := ⟨rfl, rfl, rfl, by decide +kernel, rfl, by decide +kernel, by decide +kernel⟩
abbrev s_World___init : Stmt := inClass (topS 36) 1
abbrev n_World___init : List Str := ["self", "many", "ties"]
abbrev p_World___init : List Str := ["self", "many", "ties"]
theorem sc_World___init : FnScope n_World___init p_World___init (defScope s_World___init) := ⟨rfl, rfl, rfl, by decide +kernel, rfl, by decide +kernel, by decide +kernel⟩
abbrev s_World_parted : Stmt := inClass (topS 36) 2
abbrev n_World_parted : List Str := ["many", "partings", "value"]
abbrev p_World_parted : List Str := ["many", "partings"]
theorem sc_World_parted : FnScope n_World_parted p_World_parted (defScope s_World_parted) := ⟨rfl, rfl, rfl, by decide +kernel, rfl, by decide +kernel, by decide +kernel⟩
abbrev s_World_read : Stmt := inClass (topS 36) 3
abbrev n_World_read : List Str := ["text", "first", "lines", "many", "partings", "ahead", "at", "line", "name", "parting"]
abbrev p_World_read : List Str := ["text"]
theorem sc_World_read : FnScope n_World_read p_World_read (defScope s_World_read) := ⟨rfl, rfl, rfl, by decide +kernel, rfl, by decide +kernel, by decide +kernel⟩
abbrev s_World_eyes : Stmt := inClass (topS 36) 4
abbrev n_World_eyes : List Str := ["self"]
abbrev p_World_eyes : List Str := ["self"]
theorem sc_World_eyes : FnScope n_World_eyes p_World_eyes (defScope s_World_eyes) := ⟨rfl, rfl, rfl, by decide +kernel, rfl, by decide +kernel, by decide +kernel⟩
abbrev s_World_partings : Stmt := inClass (topS 36) 5
abbrev n_World_partings : List Str := ["self"]
abbrev p_World_partings : List Str := ["self"]
theorem sc_World_partings : FnScope n_World_partings p_World_partings (defScope s_World_partings) := ⟨rfl, rfl, rfl, by decide +kernel, rfl, by decide +kernel, by decide +kernel⟩
abbrev s_World_parting_named : Stmt := inClass (topS 36) 6
abbrev n_World_parting_named : List Str := ["self", "name"]
abbrev p_World_parting_named : List Str := ["self", "name"]
theorem sc_World_parting_named : FnScope n_World_parting_named p_World_parting_named (defScope s_World_parting_named) := ⟨rfl, rfl, rfl, by decide +kernel, rfl, by decide +kernel, by decide +kernel⟩
abbrev s_World_parting : Stmt := inClass (topS 36) 7
abbrev n_World_parting : List Str := ["self", "circle", "partings", "part"]
abbrev p_World_parting : List Str := ["self", "circle"]
abbrev s_World_alike : Stmt := inClass (topS 36) 8
abbrev n_World_alike : List Str := ["self", "circle", "one", "other", "parting"]
abbrev p_World_alike : List Str := ["self", "circle", "one", "other"]
abbrev s_World_tells : Stmt := inClass (topS 36) 9
abbrev n_World_tells : List Str := ["self", "t", "s"]
abbrev p_World_tells : List Str := ["self", "t", "s"]
abbrev s_World_tied : Stmt := inClass (topS 36) 10
abbrev n_World_tied : List Str := ["self", "name", "one", "other", "further", "parting"]
abbrev p_World_tied : List Str := ["self", "name", "one", "other"]
theorem sc_World_tied : FnScope n_World_tied p_World_tied (defScope s_World_tied) := ⟨rfl, rfl, rfl, by decide +kernel, rfl, by decide +kernel, by decide +kernel⟩
abbrev s_World_kept_to : Stmt := inClass (topS 36) 11
abbrev n_World_kept_to : List Str := ["self", "cases"]
abbrev p_World_kept_to : List Str := ["self", "cases"]
abbrev s_World_exchanged : Stmt := inClass (topS 36) 12
abbrev n_World_exchanged : List Str := ["self", "first", "second"]
abbrev p_World_exchanged : List Str := ["self", "first", "second"]
abbrev s_World_text : Stmt := inClass (topS 36) 13
abbrev n_World_text : List Str := ["self", "lines", "name", "parting", "items", "item"]
abbrev p_World_text : List Str := ["self"]
theorem sc_World_text : FnScope n_World_text p_World_text (defScope s_World_text) := ⟨rfl, rfl, rfl, by decide +kernel, rfl, by decide +kernel, by decide +kernel⟩
abbrev s_World___add : Stmt := inClass (topS 36) 14
abbrev n_World___add : List Str := ["self", "other", "names", "partings", "name"]
abbrev p_World___add : List Str := ["self", "other"]
abbrev s_World___eq : Stmt := inClass (topS 36) 15
abbrev n_World___eq : List Str := ["self", "other"]
abbrev p_World___eq : List Str := ["self", "other"]
theorem sc_World___eq : FnScope n_World___eq p_World___eq (defScope s_World___eq) := ⟨rfl, rfl, rfl, by decide +kernel, rfl, by decide +kernel, by decide +kernel⟩
abbrev s_World___len : Stmt := inClass (topS 36) 16
abbrev n_World___len : List Str := ["self"]
abbrev p_World___len : List Str := ["self"]
theorem sc_World___len : FnScope n_World___len p_World___len (defScope s_World___len) := ⟨rfl, rfl, rfl, by decide +kernel, rfl, by decide +kernel, by decide +kernel⟩
abbrev s_World___str : Stmt := inClass (topS 36) 17
abbrev n_World___str : List Str := ["self"]
abbrev p_World___str : List Str := ["self"]
theorem sc_World___str : FnScope n_World___str p_World___str (defScope s_World___str) := ⟨rfl, rfl, rfl, by decide +kernel, rfl, by decide +kernel, by decide +kernel⟩
abbrev s_World___repr : Stmt := inClass (topS 36) 18
abbrev n_World___repr : List Str := ["self"]
abbrev p_World___repr : List Str := ["self"]
theorem sc_World___repr : FnScope n_World___repr p_World___repr (defScope s_World___repr) := ⟨rfl, rfl, rfl, by decide +kernel, rfl, by decide +kernel, by decide +kernel⟩
abbrev s_world_with : Stmt := topS 37
abbrev n_world_with : List Str := ["many", "partings", "world"]
abbrev p_world_with : List Str := ["many", "partings"]
theorem sc_world_with : FnScope n_world_with p_world_with (defScope s_world_with) := ⟨rfl, rfl, rfl, by decide +kernel, rfl, by decide +kernel, by decide +kernel⟩
abbrev s_law_bag : Stmt := topS 39
abbrev n_law_bag : List Str := ["_law_script", "_law_mixed_here", "_law_piece"]
abbrev p_law_bag : List Str := ["_law_script"]
theorem sc_law_bag : FnScope n_law_bag p_law_bag (defScope s_law_bag) := ⟨rfl, rfl, rfl, by decide +kernel, rfl, by decide +kernel, by decide +kernel⟩
abbrev s_law_draw : Stmt := topS 40
abbrev n_law_draw : List Str := ["_law_bag_here", "_law_sides", "_law_piece", "_law_digit", "_law_state"]
abbrev p_law_draw : List Str := ["_law_bag_here", "_law_sides"]
theorem sc_law_draw : FnScope n_law_draw p_law_draw (defScope s_law_draw) := ⟨rfl, rfl, rfl, by decide +kernel, rfl, by decide +kernel, by decide +kernel⟩
abbrev s_law_of : Stmt := topS 41
abbrev n_law_of : List Str := ["_law_bag_here", "_law_things"]
abbrev p_law_of : List Str := ["_law_bag_here", "_law_things"]
theorem sc_law_of : FnScope n_law_of p_law_of (defScope s_law_of) := ⟨rfl, rfl, rfl, by decide +kernel, rfl, by decide +kernel, by decide +kernel⟩
abbrev s_law_mixed : Stmt := topS 42
abbrev n_law_mixed : List Str := ["_law_bag_here", "_law_things", "_law_rest", "_law_found", "_law_k"]
abbrev p_law_mixed : List Str := ["_law_bag_here", "_law_things"]
theorem sc_law_mixed : FnScope n_law_mixed p_law_mixed (defScope s_law_mixed) := ⟨rfl, rfl, rfl, by decide +kernel, rfl, by decide +kernel, by decide +kernel⟩
abbrev s_law_same : Stmt := topS 43
abbrev n_law_same : List Str := ["_law_found", "_law_due", "_law_mark", "_law_x", "_law_y"]
abbrev p_law_same : List Str := ["_law_found", "_law_due"]
theorem sc_law_same : FnScope n_law_same p_law_same (defScope s_law_same) := ⟨rfl, rfl, rfl, by decide +kernel, rfl, by decide +kernel, by decide +kernel⟩
abbrev s_law_title : Stmt := topS 44
abbrev n_law_title : List Str := ["_law_bag_here", "_law_taken", "_law_title_here", "_law_k", "_law_sign"]
abbrev p_law_title : List Str := ["_law_bag_here", "_law_taken"]
theorem sc_law_title : FnScope n_law_title p_law_title (defScope s_law_title) := ⟨rfl, rfl, rfl, by decide +kernel, rfl, by decide +kernel, by decide +kernel⟩
abbrev s_law_titles : Stmt := topS 45
abbrev n_law_titles : List Str := ["_law_bag_here", "_law_size", "_law_found", "_law_k", "_law_stem", "_law_spot", "_law_begun"]
abbrev p_law_titles : List Str := ["_law_bag_here", "_law_size"]
theorem sc_law_titles : FnScope n_law_titles p_law_titles (defScope s_law_titles) := ⟨rfl, rfl, rfl, by decide +kernel, rfl, by decide +kernel, by decide +kernel⟩
abbrev s_law_alone : Stmt := topS 46
abbrev n_law_alone : List Str := ["_law_size"]
abbrev p_law_alone : List Str := ["_law_size"]
theorem sc_law_alone : FnScope n_law_alone p_law_alone (defScope s_law_alone) := ⟨rfl, rfl, rfl, by decide +kernel, rfl, by decide +kernel, by decide +kernel⟩
abbrev s_law_merged : Stmt := topS 47
abbrev n_law_merged : List Str := ["_law_rows", "_law_couples", "_law_found", "_law_x", "_law_y", "_law_low", "_law_high", "_law_z"]
abbrev p_law_merged : List Str := ["_law_rows", "_law_couples"]
theorem sc_law_merged : FnScope n_law_merged p_law_merged (defScope s_law_merged) := ⟨rfl, rfl, rfl, by decide +kernel, rfl, by decide +kernel, by decide +kernel⟩
abbrev s_law_views : Stmt := topS 48
abbrev n_law_views : List Str := ["_law_size", "_law_knots_here", "_law_found", "_law_title_here", "_law_x", "_law_y"]
abbrev p_law_views : List Str := ["_law_size", "_law_knots_here"]
theorem sc_law_views : FnScope n_law_views p_law_views (defScope s_law_views) := ⟨rfl, rfl, rfl, by decide +kernel, rfl, by decide +kernel, by decide +kernel⟩
abbrev s_law_seen : Stmt := topS 49
abbrev n_law_seen : List Str := ["_law_size", "_law_views_here", "_law_found", "_law_title_here"]
abbrev p_law_seen : List Str := ["_law_size", "_law_views_here"]
theorem sc_law_seen : FnScope n_law_seen p_law_seen (defScope s_law_seen) := ⟨rfl, rfl, rfl, by decide +kernel, rfl, by decide +kernel, by decide +kernel⟩
abbrev s_law_knots : Stmt := topS 50
abbrev n_law_knots : List Str := ["_law_bag_here", "_law_titles_here", "_law_size", "_law_count", "_law_found", "_law_k"]
abbrev p_law_knots : List Str := ["_law_bag_here", "_law_titles_here", "_law_size", "_law_count"]
theorem sc_law_knots : FnScope n_law_knots p_law_knots (defScope s_law_knots) := ⟨rfl, rfl, rfl, by decide +kernel, rfl, by decide +kernel, by decide +kernel⟩
abbrev s_law_chapter : Stmt := topS 51
abbrev n_law_chapter : List Str := ["_law_size", "_law_views_here", "_law_seen_here", "_law_x", "_law_k"]
abbrev p_law_chapter : List Str := ["_law_size", "_law_views_here"]
theorem sc_law_chapter : FnScope n_law_chapter p_law_chapter (defScope s_law_chapter) := ⟨rfl, rfl, rfl, by decide +kernel, rfl, by decide +kernel, by decide +kernel⟩
abbrev s_law_world_so : Stmt := topS 52
abbrev n_law_world_so : List Str := ["_law_w", "_law_size", "_law_views_here", "_law_seen_here", "_law_words", "_law_told"]
abbrev p_law_world_so : List Str := ["_law_w", "_law_size", "_law_views_here"]
theorem sc_law_world_so : FnScope n_law_world_so p_law_world_so (defScope s_law_world_so) := ⟨rfl, rfl, rfl, by decide +kernel, rfl, by decide +kernel, by decide +kernel⟩
abbrev s_law_ways_so : Stmt := topS 53
abbrev n_law_ways_so : List Str := ["_law_bag_here", "_law_size", "_law_knots_here", "_law_views_here", "_law_mixed_here", "_law_x", "_law_u", "_law_v", "_law_doubled", "_law_w", "_law_step", "_law_ahead", "_law_further", "_law_table", "_law_kept", "_law_by_rows", "_law_seen_here", "_law_few", "_law_told", "_law_z"]
abbrev p_law_ways_so : List Str := ["_law_bag_here", "_law_size", "_law_knots_here", "_law_views_here"]
theorem sc_law_ways_so : FnScope n_law_ways_so p_law_ways_so (defScope s_law_ways_so) := ⟨rfl, rfl, rfl, by decide +kernel, rfl, by decide +kernel, by decide +kernel⟩
abbrev s_law_unlike_so : Stmt := topS 54
abbrev n_law_unlike_so : List Str := ["_law_bag_here", "_law_titles_here", "_law_size", "_law_knots_here", "_law_views_here", "_law_w", "_law_x", "_law_u", "_law_v", "_law_further", "_law_more", "_law_same_still"]
abbrev p_law_unlike_so : List Str := ["_law_bag_here", "_law_titles_here", "_law_size", "_law_knots_here", "_law_views_here"]
theorem sc_law_unlike_so : FnScope n_law_unlike_so p_law_unlike_so (defScope s_law_unlike_so) := ⟨rfl, rfl, rfl, by decide +kernel, rfl, by decide +kernel, by decide +kernel⟩
abbrev s_law_copies_so : Stmt := topS 55
abbrev n_law_copies_so : List Str := ["_law_size", "_law_knots_here", "_law_views_here", "_law_passed", "_law_w", "_law_titles_here", "_law_table", "_law_x"]
abbrev p_law_copies_so : List Str := ["_law_size", "_law_knots_here", "_law_views_here"]
theorem sc_law_copies_so : FnScope n_law_copies_so p_law_copies_so (defScope s_law_copies_so) := ⟨rfl, rfl, rfl, by decide +kernel, rfl, by decide +kernel, by decide +kernel⟩
abbrev s_law : Stmt := topS 56
abbrev n_law : List Str := ["_law_script", "_law_bag_here", "_law_worlds", "_law_turn", "_law_size", "_law_titles_here", "_law_knots_here", "_law_views_here", "_law_bare", "_law_w", "_law_lhs", "_law_rhs", "_law_due"]
abbrev p_law : List Str := ["_law_script"]
theorem sc_law : FnScope n_law p_law (defScope s_law) := ⟨rfl, rfl, rfl, by decide +kernel, rfl, by decide +kernel, by decide +kernel⟩
structure Adr where
  no : Nat
  World : Addr
  InvalidName : Addr
  InvalidNumber : Addr
  InvalidText : Addr
  InvalidTie : Addr
  InvalidParting : Addr
  InvalidCase : Addr
  TooMany : Addr
structure Txt (K : PySem.W.Frag) (mg : Str → Option Value) (A : Adr) : Prop where
  n_isinstance : mg "isinstance" = none
  n_str : mg "str" = none
  n_len : mg "len" = none
  n_all : mg "all" = none
  n_bool : mg "bool" = none
  n_int : mg "int" = none
  n_tuple : mg "tuple" = none
  n_range : mg "range" = none
  n_list : mg "list" = none
  n_max : mg "max" = none
  n_min : mg "min" = none
  n_enumerate : mg "enumerate" = none
  n_zip : mg "zip" = none
  n_sorted : mg "sorted" = none
  n_dict : mg "dict" = none
  n_NotImplemented : mg "NotImplemented" = none
  n_staticmethod : mg "staticmethod" = none
  n_abs : mg "abs" = none
  n_repr : mg "repr" = none
  n_ValueError : mg "ValueError" = none
  m_LETTERS : ∃ t, mg "LETTERS" = some (.str "abcdefghijklmnopqrstuvwxyz" t)
  m_MOST_LETTERS : ∃ t, mg "MOST_LETTERS" = some (.int 6 t)
  m_World : mg "World" = some (.ref A.World)
  c_World : Cls K A.World
  y_World : ClsY K A.World
  s_World : PySem.W.selfFirst K A.World = true
  a_World_many : NoAttr K A.World "many"
  a_World_partings : NoAttr K A.World "_partings"
  k_World_LIMIT : ∃ t, ClX.CRead K A.World (.type "type") ∧ ClX.CVal K A.World (.type "type") "LIMIT" (.int 2400) (.int 2400 t)
  q_World_LIMIT : ∃ t, Con K A.World "LIMIT" (.int 2400) (.int 2400 t)
  i_World : InitAtD K A.World "World.__init__" s_World___init p_World___init
  j_World : InitD0 K A.World "World.__init__" s_World___init p_World___init
  u_World_parted : StaAt K A.World "parted" "World.parted" s_World_parted p_World_parted
  u_World_read : StaAt K A.World "read" "World.read" s_World_read p_World_read
  t_World_eyes : MethAt K A.World "eyes" "World.eyes" s_World_eyes p_World_eyes
  t_World_partings : MethAt K A.World "partings" "World.partings" s_World_partings p_World_partings
  t_World_parting_named : MethAt K A.World "parting_named" "World.parting_named" s_World_parting_named p_World_parting_named
  t_World_parting : MethAt K A.World "parting" "World.parting" s_World_parting p_World_parting
  t_World_alike : MethAt K A.World "alike" "World.alike" s_World_alike p_World_alike
  t_World_tells : MethAt K A.World "tells" "World.tells" s_World_tells p_World_tells
  t_World_tied : MethAt K A.World "tied" "World.tied" s_World_tied p_World_tied
  t_World_kept_to : MethAt K A.World "kept_to" "World.kept_to" s_World_kept_to p_World_kept_to
  t_World_text : MethAt K A.World "text" "World.text" s_World_text p_World_text
  t_World___add : MethAt K A.World "__add__" "World.__add__" s_World___add p_World___add
  t_World___eq : MethAt K A.World "__eq__" "World.__eq__" s_World___eq p_World___eq
  t_World___len : MethAt K A.World "__len__" "World.__len__" s_World___len p_World___len
  t_World___str : MethAt K A.World "__str__" "World.__str__" s_World___str p_World___str
  t_World___repr : MethAt K A.World "__repr__" "World.__repr__" s_World___repr p_World___repr
  e_InvalidName : ErrAt K mg "InvalidName" A.InvalidName "InvalidName.__init__" s_InvalidName___init p_InvalidName___init
  a_InvalidName_value : PySem.W.findIn K (.ref A.InvalidName) "value" = some none
  e_InvalidNumber : ErrAt K mg "InvalidNumber" A.InvalidNumber "InvalidNumber.__init__" s_InvalidNumber___init p_InvalidNumber___init
  a_InvalidNumber_value : PySem.W.findIn K (.ref A.InvalidNumber) "value" = some none
  e_InvalidText : ErrAt K mg "InvalidText" A.InvalidText "InvalidText.__init__" s_InvalidText___init p_InvalidText___init
  a_InvalidText_at : PySem.W.findIn K (.ref A.InvalidText) "at" = some none
  e_InvalidTie : ErrAt K mg "InvalidTie" A.InvalidTie "InvalidTie.__init__" s_InvalidTie___init p_InvalidTie___init
  a_InvalidTie_at : PySem.W.findIn K (.ref A.InvalidTie) "at" = some none
  e_InvalidParting : ErrAt K mg "InvalidParting" A.InvalidParting "InvalidParting.__init__" s_InvalidParting___init p_InvalidParting___init
  a_InvalidParting_value : PySem.W.findIn K (.ref A.InvalidParting) "value" = some none
  e_InvalidCase : ErrAt K mg "InvalidCase" A.InvalidCase "InvalidCase.__init__" s_InvalidCase___init p_InvalidCase___init
  a_InvalidCase_value : PySem.W.findIn K (.ref A.InvalidCase) "value" = some none
  e_TooMany : ErrAt K mg "TooMany" A.TooMany "TooMany.__init__" s_TooMany___init p_TooMany___init
  a_TooMany_what : PySem.W.findIn K (.ref A.TooMany) "what" = some none
  a_TooMany_most : PySem.W.findIn K (.ref A.TooMany) "most" = some none
  x_InvalidName_InvalidName : PySem.W.exmOne K (.ref A.InvalidName) (.ref A.InvalidName) = some true
  x_InvalidNumber_InvalidName : PySem.W.exmOne K (.ref A.InvalidNumber) (.ref A.InvalidName) = some false
  x_InvalidNumber_InvalidNumber : PySem.W.exmOne K (.ref A.InvalidNumber) (.ref A.InvalidNumber) = some true
  x_InvalidTie_InvalidName : PySem.W.exmOne K (.ref A.InvalidTie) (.ref A.InvalidName) = some false
  x_InvalidTie_InvalidNumber : PySem.W.exmOne K (.ref A.InvalidTie) (.ref A.InvalidNumber) = some false
  x_InvalidTie_InvalidText : PySem.W.exmOne K (.ref A.InvalidTie) (.ref A.InvalidText) = some false
  x_InvalidTie_InvalidTie : PySem.W.exmOne K (.ref A.InvalidTie) (.ref A.InvalidTie) = some true
  x_InvalidParting_InvalidName : PySem.W.exmOne K (.ref A.InvalidParting) (.ref A.InvalidName) = some false
  x_InvalidParting_InvalidNumber : PySem.W.exmOne K (.ref A.InvalidParting) (.ref A.InvalidNumber) = some false
  x_InvalidParting_InvalidText : PySem.W.exmOne K (.ref A.InvalidParting) (.ref A.InvalidText) = some false
  x_InvalidParting_InvalidTie : PySem.W.exmOne K (.ref A.InvalidParting) (.ref A.InvalidTie) = some false
  x_InvalidParting_InvalidParting : PySem.W.exmOne K (.ref A.InvalidParting) (.ref A.InvalidParting) = some true
  x_TooMany_InvalidName : PySem.W.exmOne K (.ref A.TooMany) (.ref A.InvalidName) = some false
  x_TooMany_InvalidNumber : PySem.W.exmOne K (.ref A.TooMany) (.ref A.InvalidNumber) = some false
  x_TooMany_InvalidText : PySem.W.exmOne K (.ref A.TooMany) (.ref A.InvalidText) = some false
  x_TooMany_InvalidTie : PySem.W.exmOne K (.ref A.TooMany) (.ref A.InvalidTie) = some false
  x_TooMany_InvalidParting : PySem.W.exmOne K (.ref A.TooMany) (.ref A.InvalidParting) = some false
  x_TooMany_InvalidCase : PySem.W.exmOne K (.ref A.TooMany) (.ref A.InvalidCase) = some false
  x_TooMany_TooMany : PySem.W.exmOne K (.ref A.TooMany) (.ref A.TooMany) = some true
  x_InvalidText_InvalidName : PySem.W.exmOne K (.ref A.InvalidText) (.ref A.InvalidName) = some false
  x_InvalidText_InvalidNumber : PySem.W.exmOne K (.ref A.InvalidText) (.ref A.InvalidNumber) = some false
  x_InvalidText_InvalidText : PySem.W.exmOne K (.ref A.InvalidText) (.ref A.InvalidText) = some true
  x_InvalidText_TooMany : PySem.W.exmOne K (.ref A.InvalidText) (.ref A.TooMany) = some false
  x_InvalidCase_InvalidName : PySem.W.exmOne K (.ref A.InvalidCase) (.ref A.InvalidName) = some false
  x_InvalidCase_InvalidNumber : PySem.W.exmOne K (.ref A.InvalidCase) (.ref A.InvalidNumber) = some false
  x_InvalidCase_InvalidText : PySem.W.exmOne K (.ref A.InvalidCase) (.ref A.InvalidText) = some false
  x_InvalidCase_InvalidTie : PySem.W.exmOne K (.ref A.InvalidCase) (.ref A.InvalidTie) = some false
  x_InvalidCase_InvalidParting : PySem.W.exmOne K (.ref A.InvalidCase) (.ref A.InvalidParting) = some false
  x_InvalidCase_InvalidCase : PySem.W.exmOne K (.ref A.InvalidCase) (.ref A.InvalidCase) = some true
  kw_int : PySem.W.kitOne K (.type "int") (.ref A.World) = some false
  kw_list : PySem.W.kitOne K (.type "list") (.ref A.World) = some false
  kw_str : PySem.W.kitOne K (.type "str") (.ref A.World) = some false
  nfw_int : PySem.W.notFirst K A.World (.type "int") = true
  nfw_list : PySem.W.notFirst K A.World (.type "list") = true
  nfw_str : PySem.W.notFirst K A.World (.type "str") = true
  f_wall : FnAt K mg "_wall" s_wall p_wall
  f_is_name : FnAt K mg "is_name" s_is_name p_is_name
  f_is_number : FnAt K mg "is_number" s_is_number p_is_number
  f_is_parting : FnAt K mg "is_parting" s_is_parting p_is_parting
  f_is_item : FnAt K mg "is_item" s_is_item p_is_item
  f_apart : FnAt K mg "apart" s_apart p_apart
  f_linked : FnAt K mg "linked" s_linked p_linked
  f_by_keys : FnAt K mg "by_keys" s_by_keys p_by_keys
  f_met : FnAt K mg "met" s_met p_met
  f_joined : FnAt K mg "joined" s_joined p_joined
  f_within : FnAt K mg "within" s_within p_within
  f_beside : FnAt K mg "beside" s_beside p_beside
  f_check_names : FnAt K mg "check_names" s_check_names p_check_names
  f_check_cases : FnAt K mg "check_cases" s_check_cases p_check_cases
  f_check_many : FnAt K mg "check_many" s_check_many p_check_many
  f_check_ties : FnAt K mg "check_ties" s_check_ties p_check_ties
  f_is_tie : FnAt K mg "is_tie" s_is_tie p_is_tie
  f_is_parting_to : FnAt K mg "is_parting_to" s_is_parting_to p_is_parting_to
  f_tied_partings : FnAt K mg "tied_partings" s_tied_partings p_tied_partings
  f_counting : FnAt K mg "counting" s_counting p_counting
  f_read_many : FnAt K mg "read_many" s_read_many p_read_many
  f_read_parting : FnAt K mg "read_parting" s_read_parting p_read_parting
  f_world_with : FnAt K mg "world_with" s_world_with p_world_with
  f_law_bag : FnAt K mg "_law_bag" s_law_bag p_law_bag
  f_law_draw : FnAt K mg "_law_draw" s_law_draw p_law_draw
  f_law_of : FnAt K mg "_law_of" s_law_of p_law_of
  f_law_mixed : FnAt K mg "_law_mixed" s_law_mixed p_law_mixed
  f_law_same : FnAt K mg "_law_same" s_law_same p_law_same
  f_law_title : FnAt K mg "_law_title" s_law_title p_law_title
  f_law_titles : FnAt K mg "_law_titles" s_law_titles p_law_titles
  f_law_alone : FnAt K mg "_law_alone" s_law_alone p_law_alone
  f_law_merged : FnAt K mg "_law_merged" s_law_merged p_law_merged
  f_law_views : FnAt K mg "_law_views" s_law_views p_law_views
  f_law_seen : FnAt K mg "_law_seen" s_law_seen p_law_seen
  f_law_knots : FnAt K mg "_law_knots" s_law_knots p_law_knots
  f_law_chapter : FnAt K mg "_law_chapter" s_law_chapter p_law_chapter
  f_law_world_so : FnAt K mg "_law_world_so" s_law_world_so p_law_world_so
  f_law_ways_so : FnAt K mg "_law_ways_so" s_law_ways_so p_law_ways_so
  f_law_unlike_so : FnAt K mg "_law_unlike_so" s_law_unlike_so p_law_unlike_so
  f_law_copies_so : FnAt K mg "_law_copies_so" s_law_copies_so p_law_copies_so
  f_law : FnAt K mg "law" s_law p_law
def TT (A : Adr) : List (Addr × Str) := []
structure Tbs (K : PySem.W.Frag) (h : Heap) (A : Adr) : Prop where
end Eyes

set_option Elab.async false
set_option linter.all false
set_option maxRecDepth 100000
set_option maxHeartbeats 4000000
namespace Eyes
open PySem PySem.Spec PyProof.Rows L2 Evl
local macro_rules | `(tactic| walk_at "v") => `(tactic| refine ⟨_, rfl, ?_⟩)
local macro_rules | `(tactic| walk_at "rd") => `(tactic| first
  | refine ⟨_, rfl, ?_⟩
  | refine ⟨_, _, rfl, rfl, .inr ⟨by decide, by decide⟩, ?_⟩
  | refine ⟨_, _, rfl, rfl, .inl ⟨by decide, by decide⟩, ?_⟩
  | refine ⟨_, _, rfl, rfl, (show (0 : Int) < _ by decide), ?_⟩
  | refine ⟨_, _, rfl, rfl, (show (0 : Int) < _ ∧ _ < (1073741824 : Int) by decide), ?_⟩
  | refine ⟨_, _, rfl, rfl, ?_⟩
  | refine .inl ⟨_, rfl, ?_⟩)
/-! ### the bag of drawn numbers -/
structure BagS (b c : Addr) (ns : List Int) (i r m n : Int) (G H : Hp) : Prop where
  nb : G b = none
  nc : G c = none
  ex : Ex G H
  at_ : H b = some (.lst [.ref c, .int i, .int r, .int m, .int n])
  cells : H c = some (.lst (ns.map V.int))
  ne : c ≠ b
  i0 : 0 ≤ i
  r0 : 0 ≤ r
  m0 : 0 ≤ m
  m1 : m < 2147483648
theorem BagS.set {b c : Addr} {ns : List Int} {i r m n i' r' m' n' : Int} {G H : Hp} (B : BagS b c ns i r m n G H) (h1 : 0 ≤ i') (h2 : 0 ≤ r') (h3 : 0 ≤ m') (h4 : m' < 2147483648) :
    BagS b c ns i' r' m' n' G (upd H b (.lst [.ref c, .int i', .int r', .int m', .int n'])) :=
  ⟨B.nb, B.nc, B.ex.mut B.nb, upd_same, (upd_ne B.ne).trans B.cells, B.ne, h1, h2, h3, h4⟩
def At (b : Addr) (G H : Hp) : Prop := ∃ (c : Addr) (ns : List Int) (i r m n : Int), BagS b c ns i r m n G H
theorem At.nb {b : Addr} {G H : Hp} (h : At b G H) : G b = none := by
  obtain ⟨c, ns, i, r, m, n, B⟩ := h
  exact B.nb
theorem At.ex {b : Addr} {G H : Hp} (h : At b G H) : Ex G H := by
  obtain ⟨c, ns, i, r, m, n, B⟩ := h
  exact B.ex
theorem At.mono {b : Addr} {G H H' : Hp} (h : At b G H) (e : Ex H H') : At b G H' := by
  obtain ⟨c, ns, i, r, m, n, B⟩ := h
  exact ⟨c, ns, i, r, m, n, B.nb, B.nc, B.ex.trans e, e _ _ B.at_, e _ _ B.cells, B.ne, B.i0, B.r0, B.m0, B.m1⟩
theorem At.free {b : Addr} {G H : Hp} (h : At b G H) {p : Addr} (hp : H p = none) : p ≠ b := by
  obtain ⟨c, ns, i, r, m, n, B⟩ := h
  intro e
  rw [e, B.at_] at hp
  cases hp
theorem At.new {b : Addr} {G H : Hp} (h : At b G H) {p : Addr} {o : HO} (hp : H p = none) : At b (upd G p o) (upd H p o) := by
  have hf := h.free hp
  have hc : ∀ c ns i r m n, BagS b c ns i r m n G H → p ≠ c := fun c ns i r m n B e => by
    rw [e, B.cells] at hp
    cases hp
  obtain ⟨c, ns, i, r, m, n, B0⟩ := h
  have B : BagS b c ns i r m n G (upd H p o) := ⟨B0.nb, B0.nc, B0.ex.trans (Ex.new hp), Ex.new hp _ _ B0.at_, Ex.new hp _ _ B0.cells, B0.ne, B0.i0, B0.r0, B0.m0, B0.m1⟩
  refine ⟨c, ns, i, r, m, n, (upd_ne hf.symm).trans B.nb, (upd_ne (hc _ _ _ _ _ _ B0).symm).trans B.nc, fun a u e => ?_, B.at_, B.cells, B.ne, B.i0, B.r0, B.m0, B.m1⟩
  by_cases ha : a = p
  · subst ha
    rw [upd_same] at e ⊢
    exact e
  · rw [upd_ne ha] at e
    exact B.ex a u e
theorem At.weak {b : Addr} {G G1 H : Hp} (h : At b G1 H) (e : Ex G G1) : At b G H := by
  obtain ⟨c, ns, i, r, m, n, B⟩ := h
  exact ⟨c, ns, i, r, m, n, fresh_back e B.nb, fresh_back e B.nc, e.trans B.ex, B.at_, B.cells, B.ne, B.i0, B.r0, B.m0, B.m1⟩
theorem At.nh {b : Addr} {G H : Hp} (h : At b G H) {p : Addr} (hp : H p = none) : G p = none := fresh_back h.ex hp
theorem At.put {b : Addr} {G H : Hp} {p : Addr} {o o' : HO} (h : At b (upd G p o) H) : At b (upd G p o') (upd H p o') := by
  obtain ⟨c, ns, i, r, m, n, B⟩ := h
  have hb : b ≠ p := fun e => by
    have := B.nb
    rw [e, upd_same] at this
    cases this
  have hc : c ≠ p := fun e => by
    have := B.nc
    rw [e, upd_same] at this
    cases this
  refine ⟨c, ns, i, r, m, n, ?_, ?_, fun a u e => ?_, (upd_ne hb).trans B.at_, (upd_ne hc).trans B.cells, B.ne, B.i0, B.r0, B.m0, B.m1⟩
  · have := B.nb
    rw [upd_ne hb] at this ⊢
    exact this
  · have := B.nc
    rw [upd_ne hc] at this ⊢
    exact this
  · by_cases ha : a = p
    · subst ha
      rw [upd_same] at e ⊢
      exact e
    · rw [upd_ne ha] at e ⊢
      exact B.ex a u (by rw [upd_ne ha]; exact e)
theorem cut_to (xs : List V) (k : Nat) : cutV xs none (some (k : Int)) = xs.take k := by
  unfold cutV
  rw [HT.sIx_none, HT.sIx_nat, List.drop_zero, Nat.sub_zero]
  rcases Nat.le_total k xs.length with h | h
  · rw [Nat.min_eq_left h]
  · rw [Nat.min_eq_right h, List.take_of_length_le h, List.take_of_length_le (Nat.le_refl _)]
theorem at_of' {α : Type} {xs : List α} {z : Int} {v : α} (e : 0 ≤ z) (h : xs[z.toNat]? = some v) : atI xs z = some v := by
  have e2 : z = (z.toNat : Int) := by omega
  rw [e2]
  exact atI_nat h
def spBag (K : PySem.W.Frag) : Sp := fun vs H Q _ => ∃ (a : Addr) (ns : List Int), vs = [.ref a] ∧ SqL K H a (ns.map V.int) ∧ ∀ b H', H b = none → At b H H' → Q (.ref b) H'
def spDraw : Sp := fun vs H Q _ => ∃ (b : Addr) (z : Int) (G : Hp), vs = [.ref b, .int z] ∧ At b G H ∧ 0 < z ∧ z < 1073741824 ∧ ∀ d H', 0 ≤ d → d < z → At b G H' → Q (.int d) H'
section
variable {P : Program} {w : World} {K : PySem.W.Frag} {mg : Str → Option Value} {base : Heap}
theorem ok_law_bag {AA : Adr} (T : Txt K mg AA) : Pr P w K mg base "_law_bag" s_law_bag p_law_bag 1 (spBag K) := by
  refine pr_mk T.f_law_bag sc_law_bag (fun vs H Q E h => ?_) (fun f cdv A outer s H vs Q E hr h => ?_)
  · obtain ⟨a, ns, rfl, _⟩ := h
    rfl
  · obtain ⟨a, ns, rfl, hS, q⟩ := h
    refine ⟨_, (pss_cons (ps_set (i := 1) sc_law_bag.nd rfl (.inl rfl) pe_int)
      (pss_cons (ps_for PassesOwn.never rfl (pi_list (pe_slice sl_list (pv 0) po_none (po_some pe_int))) (pg_name (i := 2) sc_law_bag.nd rfl (.inl rfl))
      (pss_one (ps_set (i := 1) sc_law_bag.nd rfl (.inl rfl) (pe_op op_mod (pe_callTy call_int1 (by rfl) T.n_int PyProof.Rows.boot_int (pa_cons (pe_op op_add (pe_op op_add (pe_op op_mul (pv 1) pe_int) (pe_op op_mul (pe_op op_mod (pe_callTy call_int1 (by rfl) T.n_int PyProof.Rows.boot_int (pa_cons (pv 2) pa_nil)) pe_int) pe_int)) pe_int) pa_nil)) pe_int))))
      (pss_one (ps_ret (pe_lst (pa_cons (pe_callTy call_list_of (by rfl) T.n_list PyProof.Rows.boot_list (pa_cons (pe_slice sl_list (pv 0) po_none (po_some pe_int)) pa_nil)) (pa_cons pe_int (pa_cons pe_int (pa_cons (pv 1) (pa_cons pe_int pa_nil)))))))))), ?_⟩
    -- mixed = 43001
    -- for piece in script[:63]
    refine ⟨_, rfl, 63, rfl, a, _, rfl, hS, fun p np => ?_⟩
    have hc : cutV (ns.map V.int) none (some 63) = (ns.take 63).map V.int := (cut_to _ 63).trans List.map_take.symm
    rw [hc]
    have e1 : Ex H (upd H p (.lst ((ns.take 63).map V.int))) := Ex.new np
    refine ⟨p, rfl, ⟨_, sq_of upd_same⟩, for_list (xs := (ns.take 63).map V.int) (fun _ σ H' => ∃ (m : Int) (y : Option V), σ = [some (.ref a), some (.int m), y] ∧ 0 ≤ m ∧ m < 2147483587 ∧ Ex (upd H p (.lst ((ns.take 63).map V.int))) H') ⟨43001, none, rfl, by omega, by omega, Ex.refl _⟩ (fun i σ H' _ hp => ?_) (fun i x σ H' hx hp => ?_) (fun σ H' hp => ?_)⟩
    · obtain ⟨m, y, rfl, _, _, e2⟩ := hp
      exact sq_of (e2 _ _ upd_same)
    · obtain ⟨m, y, rfl, h0, h1, e2⟩ := hp
      rw [List.getElem?_map] at hx
      obtain ⟨k, hk, rfl⟩ := Option.map_eq_some_iff.mp hx
      -- the sum
      repeat walk_at "rd"
      exact ⟨_, _, rfl, Int.emod_nonneg _ (by decide), Int.emod_lt_of_pos _ (by decide), e2⟩
    · obtain ⟨m, y, rfl, h0, h1, e2⟩ := hp
      -- return [list(script[:63]), 0, 0, mixed, 0]
      have hS1 : SqL K H' a (ns.map V.int) := ex_l (e1.trans e2) hS
      refine ⟨_, rfl, 63, rfl, a, _, rfl, hS1, fun p2 np2 => ?_⟩
      rw [hc]
      refine ⟨p2, _, rfl, .inl (sq_of upd_same), fun p3 np3 => ?_⟩
      refine ⟨_, rfl, by show 5 ≤ sizeLine; decide, fun b nb => ?_⟩
      have ex : Ex H _ := (((e1.trans e2).trans (Ex.new np2)).trans (Ex.new np3)).trans (Ex.new (o := HO.lst [.ref p3, .int 0, .int 0, .int m, .int 0]) nb)
      refine q b _ (fresh_back (((e1.trans e2).trans (Ex.new np2)).trans (Ex.new np3)) nb) ⟨p3, ns.take 63, 0, 0, m, 0, fresh_back (((e1.trans e2).trans (Ex.new np2)).trans (Ex.new np3)) nb, fresh_back ((e1.trans e2).trans (Ex.new np2)) np3, ex, upd_same, ?_, ?_, by omega, by omega, by omega, by omega⟩
      · have hb : p3 ≠ b := ne_of_none upd_same nb
        rw [upd_ne hb, upd_same]
      · exact ne_of_none upd_same nb
theorem ok_law_draw {AA : Adr} (T : Txt K mg AA) : Pr P w K mg base "_law_draw" s_law_draw p_law_draw 1 spDraw := by
  refine pr_mk T.f_law_draw sc_law_draw (fun vs H Q E h => ?_) (fun f cdv A outer s H vs Q E hr h => ?_)
  · obtain ⟨b, z, G, rfl, _⟩ := h
    rfl
  · obtain ⟨b, z, G, rfl, ⟨c, ns, i, r, m, n, B⟩, hz0, hz1, q⟩ := h
    refine ⟨_, (pss_cons (ps_asg (pe_op op_add (pe_ix (ix_listK (K := K) rfl) (pv 0) pe_int (fun _ _ => rfl)) pe_int) (pg_sub (pv 0) pe_int set_list))
      (Evl.pss_cut (ps_if (PW.pt (pw_and (pt_cmpR op_eq (pe_ix (ix_listK (K := K) rfl) (pv 0) pe_int (fun _ _ => rfl)) pe_int (nomark _)) (pw_and1 (pt_cmpR op_lt (pe_ix (ix_listK (K := K) rfl) (pv 0) pe_int (fun _ _ => rfl)) (pe_callB (call_len_seqK (K := K) rfl) (by rfl) T.n_len PySem.boot_len (pa_cons (pe_ix (ix_listK (K := K) rfl) (pv 0) pe_int (fun _ _ => rfl)) pa_nil)) (nomark _)))))
      (pss_cons (ps_set (i := 2) sc_law_draw.nd rfl (.inl rfl) (pe_callB call_abs (by rfl) T.n_abs PyProof.Rows.boot_abs (pa_cons (pe_callTy call_int1 (by rfl) T.n_int PyProof.Rows.boot_int (pa_cons (pe_ix (ix_listK (K := K) rfl) (pe_ix (ix_listK (K := K) rfl) (pv 0) pe_int (fun _ _ => rfl)) (pe_ix (ix_listK (K := K) rfl) (pv 0) pe_int (fun _ _ => rfl)) (fun _ _ => rfl)) pa_nil)) pa_nil)))
      (pss_cons (ps_asg (pe_op op_add (pe_ix (ix_listK (K := K) rfl) (pv 0) pe_int (fun _ _ => rfl)) pe_int) (pg_sub (pv 0) pe_int set_list))
      (pss_one (ps_if (pt_cmpR op_ge (pv 2) (pe_op op_pow pe_int pe_int) (nomark _))
      (pss_one (ps_asg (pv 2) (pg_sub (pv 0) pe_int set_list)))
      (pss_one (ps_asg (pe_op op_mod (pe_callTy call_int1 (by rfl) T.n_int PyProof.Rows.boot_int (pa_cons (pe_op op_add (pe_op op_add (pe_op op_mul (pe_ix (ix_listK (K := K) rfl) (pv 0) pe_int (fun _ _ => rfl)) pe_int) (pe_op op_mul (pe_op op_mod (pv 2) pe_int) pe_int)) pe_int) pa_nil)) pe_int) (pg_sub (pv 0) pe_int set_list)))))))
      pss_nil)
      (pss_cons (ps_if (pt_cmpR op_gt (pe_ix (ix_listK (K := K) rfl) (pv 0) pe_int (fun _ _ => rfl)) pe_int (nomark _))
      (pss_cons (ps_set (i := 3) sc_law_draw.nd rfl (.inl rfl) (pe_op op_mod (pe_callTy call_int1 (by rfl) T.n_int PyProof.Rows.boot_int (pa_cons (pe_ix (ix_listK (K := K) rfl) (pv 0) pe_int (fun _ _ => rfl)) pa_nil)) (pv 1)))
      (pss_cons (ps_asg (pe_op op_fdiv (pe_ix (ix_listK (K := K) rfl) (pv 0) pe_int (fun _ _ => rfl)) (pv 1)) (pg_sub (pv 0) pe_int set_list))
      (pss_one (ps_ret (pv 3)))))
      pss_nil)
      (pss_cons (ps_set (i := 4) sc_law_draw.nd rfl (.inl rfl) (pe_callTy call_int1 (by rfl) T.n_int PyProof.Rows.boot_int (pa_cons (pe_ix (ix_listK (K := K) rfl) (pv 0) pe_int (fun _ _ => rfl)) pa_nil)))
      (pss_cons (ps_asg (pe_op op_mod (pe_callTy call_int1 (by rfl) T.n_int PyProof.Rows.boot_int (pa_cons (pe_op op_add (pe_op op_add (pe_op op_add (pe_op op_mul (pe_op op_mul (pv 4) (pv 4)) pe_int) (pe_op op_mul (pv 4) pe_int)) (pe_op op_mul (pe_ix (ix_listK (K := K) rfl) (pv 0) pe_int (fun _ _ => rfl)) pe_int)) pe_int) pa_nil)) pe_int) (pg_sub (pv 0) pe_int set_list))
      (pss_one (ps_ret (pe_op op_mod (pe_callTy call_int1 (by rfl) T.n_int PyProof.Rows.boot_int (pa_cons (pe_op op_add (pe_op op_fdiv (pe_ix (ix_listK (K := K) rfl) (pv 0) pe_int (fun _ _ => rfl)) pe_int) (pe_op op_mul (pe_op op_mod (pe_callTy call_int1 (by rfl) T.n_int PyProof.Rows.boot_int (pa_cons (pe_ix (ix_listK (K := K) rfl) (pv 0) pe_int (fun _ _ => rfl)) pa_nil)) pe_int) pe_int)) pa_nil)) (pv 1))))))))), ?_⟩
    -- bag[4] = bag[4] + 1
    refine ⟨_, rfl, b, _, 4, _, rfl, rfl, sq_of B.at_, rfl, n, 1, rfl, rfl, _, rfl, b, _, 4, 4, rfl, rfl, B.at_, rfl, ?_⟩
    have B1 := B.set (n' := n + 1) B.i0 B.r0 B.m0 B.m1
    generalize hH1 : upd H b _ = H1
    rw [show ([V.ref c, .int i, .int r, .int m, .int n].set 4 (.int (n + 1))) = [V.ref c, .int i, .int r, .int m, .int (n + 1)] from rfl] at hH1
    rw [hH1] at B1
    clear hH1 B
    generalize n + 1 = n at B1
    -- the first if: Mid
    refine ⟨fun σ H' => ∃ (y2 y3 y4 : Option V), σ = [some (.ref b), some (.int z), y2, y3, y4] ∧ At b G H', ?_, fun σ H' hM => ?_⟩
    · refine ⟨_, rfl, b, _, 2, _, rfl, rfl, sq_of B1.at_, rfl, rfl, _, rfl, ite2 (fun hr0 => ?_) (fun hr0 => ?_)⟩
      · refine ⟨_, rfl, b, _, 1, _, rfl, rfl, sq_of B1.at_, rfl, _, rfl, b, _, 0, _, rfl, rfl, sq_of B1.at_, rfl, c, _, rfl, .inl (sq_of B1.cells), i, _, rfl, rfl, _, rfl, ite2 (fun hi => ?_) (fun hi => ?_)⟩
        · have hi : i < ((ns.map V.int).length : Int) := of_decide_eq_true hi
          have hi2 : i.toNat < ns.length := by
            rw [List.length_map] at hi
            have := B1.i0
            omega
          have g : (ns.map V.int)[i.toNat]? = some (.int ns[i.toNat]) := by
            rw [List.getElem?_map, List.getElem?_eq_getElem hi2]
            rfl
          have g2 : atI (ns.map V.int) i = some (.int ns[i.toNat]) := at_of (j := i.toNat) (by have := B1.i0; omega) g
          generalize ns[i.toNat] = x at g2
          -- piece = abs(int(bag[0][bag[1]]))
          refine ⟨_, rfl, b, _, 0, _, rfl, rfl, sq_of B1.at_, rfl, _, rfl, b, _, 1, _, rfl, rfl, sq_of B1.at_, rfl, c, _, i, _, rfl, rfl, sq_of B1.cells, g2, .inl ⟨x, rfl, x, rfl, ?_⟩⟩
          generalize hy : (if x < 0 then -x else x) = y
          have hy0 : 0 ≤ y := by
            rw [← hy]
            split <;> omega
          -- bag[1] = bag[1] + 1
          refine ⟨_, rfl, b, _, 1, _, rfl, rfl, sq_of B1.at_, rfl, i, 1, rfl, rfl, _, rfl, b, _, 1, 1, rfl, rfl, B1.at_, rfl, ?_⟩
          have B2 := B1.set (i' := i + 1) (n' := n) (by have := B1.i0; omega) B1.r0 B1.m0 B1.m1
          -- if piece >= 10 ** 18
          refine ⟨_, rfl, 10, 18, rfl, rfl, ⟨by decide, by decide, by decide⟩, _, _, rfl, rfl, _, rfl, ite2 (fun hp => ?_) (fun hp => ?_)⟩
          · refine ⟨_, rfl, _, rfl, b, _, 2, 2, rfl, rfl, B2.at_, rfl, _, _, _, rfl, _, _, _, _, _, _, B2.set (r' := y) (n' := n) B2.i0 hy0 B2.m0 B2.m1⟩
          · refine ⟨_, rfl, b, _, 3, _, rfl, rfl, sq_of B2.at_, rfl, m, 40014, rfl, rfl, .inr ⟨by decide, by decide⟩, _, rfl, ?_⟩
            repeat walk_at "rd"
            refine ⟨b, _, 3, 3, rfl, rfl, B2.at_, rfl, _, _, _, rfl, _, _, _, _, _, _, B2.set (n' := n) (m' := (m * 40014 + y % 999979 * 613 + 29) % 2147483579) B2.i0 B2.r0 (Int.emod_nonneg _ (by decide)) (Int.lt_trans (Int.emod_lt_of_pos _ (by decide)) (by decide))⟩
        · exact ⟨_, _, _, rfl, c, ns, i, r, m, n, B1⟩
      · exact ⟨_, _, _, rfl, c, ns, i, r, m, n, B1⟩
    · obtain ⟨y2, y3, y4, rfl, c, ns, i, r, m, n, B⟩ := hM
      -- if bag[2] > 0
      refine ⟨_, rfl, b, _, 2, _, rfl, rfl, sq_of B.at_, rfl, r, 0, rfl, rfl, _, rfl, ite2 (fun hr1 => ?_) (fun hr1 => ?_)⟩
      · have hr1 : 0 < r := of_decide_eq_true hr1
        refine ⟨_, rfl, b, _, 2, _, rfl, rfl, sq_of B.at_, rfl, .inl ⟨r, rfl, _, rfl, r, z, rfl, rfl, hz0, ?_⟩⟩
        refine ⟨_, rfl, b, _, 2, _, rfl, rfl, sq_of B.at_, rfl, _, rfl, r, z, rfl, rfl, ⟨hz0, hz1⟩, _, rfl, b, _, 2, 2, rfl, rfl, B.at_, rfl, _, rfl, ?_⟩
        exact q _ _ (Int.emod_nonneg _ (by omega)) (Int.emod_lt_of_pos _ hz0) ⟨_, _, _, _, _, _, B.set (r' := r / z) (n' := n) B.i0 (Int.ediv_nonneg B.r0 (by omega)) B.m0 B.m1⟩
      · refine ⟨_, rfl, b, _, 3, _, rfl, rfl, sq_of B.at_, rfl, .inl ⟨m, rfl, ?_⟩⟩
        have hm : -(2 ^ 64) < m ∧ m < 2 ^ 64 := ⟨Int.lt_of_lt_of_le (by decide) B.m0, Int.lt_trans B.m1 (by decide)⟩
        refine ⟨_, rfl, _, rfl, m, m, rfl, rfl, .inl hm, _, _, rfl, rfl, .inr ⟨by decide, by decide⟩, _, rfl, _, _, rfl, rfl, .inr ⟨by decide, by decide⟩, _, _, rfl, rfl, _, rfl, b, _, 4, _, rfl, rfl, sq_of B.at_, rfl, _, _, rfl, rfl, .inr ⟨by decide, by decide⟩, _, _, rfl, rfl, _, _, rfl, rfl, .inl ⟨_, rfl, _, _, rfl, rfl, (show (0 : Int) < _ by decide), _, rfl, b, _, 3, 3, rfl, rfl, B.at_, rfl, ?_⟩⟩
        have B2 := B.set (n' := n) (m' := (m * m * 31 + m * 52774 + n * 130363 + 70001) % 2147483629) B.i0 B.r0 (Int.emod_nonneg _ (by decide)) (Int.lt_trans (Int.emod_lt_of_pos _ (by decide)) (by decide))
        refine ⟨_, rfl, b, _, 3, _, rfl, rfl, sq_of B2.at_, rfl, _, 71, rfl, rfl, ⟨by decide, by decide⟩, _, rfl, b, _, 3, _, rfl, rfl, sq_of B2.at_, rfl, .inl ⟨_, rfl, _, 9001, rfl, rfl, (show (0 : Int) < _ by decide), _, _, rfl, rfl, .inr ⟨by decide, by decide⟩, _, _, rfl, rfl, .inl ⟨_, rfl, _, rfl, _, _, rfl, rfl, hz0, ?_⟩⟩⟩
        exact q _ _ (Int.emod_nonneg _ (by omega)) (Int.emod_lt_of_pos _ hz0) ⟨_, _, _, _, _, _, B2⟩
def SeqV (K : PySem.W.Frag) (H : Hp) (x : V) (items : List V) : Prop :=
  (∃ p, x = .ref p ∧ SqL K H p items) ∨ (∃ p, x = .ref p ∧ SqT K H p items) ∨ ∃ z : Str, x = .str z ∧ z.length ≤ sizeLine ∧ items = z.cps.toList.map fun c => V.str ⟨#[c]⟩
theorem SeqV.mono {H H' : Hp} {x : V} {items : List V} (h : SeqV K H x items) (e : Ex H H') : SeqV K H' x items := by
  rcases h with ⟨p, hx, h⟩ | ⟨p, hx, h⟩ | h
  · exact .inl ⟨p, hx, ex_l e h⟩
  · exact .inr (.inl ⟨p, hx, ex_t e h⟩)
  · exact .inr (.inr h)
theorem SeqV.len {H : Hp} {x : V} {items : List V} (h : SeqV K H x items) : LenV K x H items.length := by
  rcases h with ⟨p, rfl, h⟩ | ⟨p, rfl, h⟩ | ⟨z, rfl, hz, e⟩
  · exact .inl ⟨_, h, rfl⟩
  · exact .inr ⟨_, h, rfl⟩
  · refine ⟨hz, ?_⟩
    rw [e, List.length_map, Array.length_toList]
    rfl
theorem SeqV.item {H : Hp} {x : V} {items : List V} {d : Int} {v : V} {Q : VK} (h : SeqV K H x items) (hd : 0 ≤ d) (hv : items[d.toNat]? = some v) (q : Q v H) : rIx K x (.int d) H Q := by
  rcases h with ⟨p, rfl, h⟩ | ⟨p, rfl, h⟩ | ⟨z, rfl, hz, e⟩
  · exact .inl ⟨p, _, d, v, rfl, rfl, h, at_of (j := d.toNat) (by omega) hv, q⟩
  · exact .inr (.inl ⟨p, _, d, v, rfl, rfl, h, at_of (j := d.toNat) (by omega) hv, q⟩)
  · subst e
    rw [List.getElem?_map] at hv
    obtain ⟨c, hc, rfl⟩ := Option.map_eq_some_iff.mp hv
    exact .inr (.inr ⟨z, d, c, rfl, rfl, hz, at_of' (by omega) hc, q⟩)
def spOf (K : PySem.W.Frag) : Sp := fun vs H Q _ => ∃ (b : Addr) (x : V) (G : Hp) (items : List V), vs = [.ref b, x] ∧ At b G H ∧ SeqV K G x items ∧ 0 < items.length ∧ items.length < 1073741824 ∧ ∀ v H', v ∈ items → At b G H' → Q v H'
theorem ok_law_of {AA : Adr} (T : Txt K mg AA) : Pr P w K mg base "_law_of" s_law_of p_law_of 2 (spOf K) := by
  refine pr_mk T.f_law_of sc_law_of (fun vs H Q E h => ?_) (fun f cdv A outer s H vs Q E hr h => ?_)
  · obtain ⟨b, x, G, items, rfl, _⟩ := h
    rfl
  · obtain ⟨b, x, G, items, rfl, hA, hx, h0, h1, q⟩ := h
    refine ⟨_, (pss_one (ps_ret (pe_ix (ix_seqK (K := K) rfl) (pv 1) (pcall (ok_law_draw T) hr (pa_cons (pv 0) (pa_cons (pe_callB call_len (by rfl) T.n_len PySem.boot_len (pa_cons (pv 1) pa_nil)) pa_nil))) (fun _ _ => rfl)))), ?_⟩
    refine ⟨_, rfl, _, rfl, _, rfl, x, _, rfl, (hx.mono hA.ex).len, b, _, G, rfl, hA, by omega, by omega, fun d H' d0 d1 hA' => ?_⟩
    have hd : d.toNat < items.length := by omega
    exact (hx.mono hA'.ex).item d0 (List.getElem?_eq_getElem hd) (q _ _ (List.getElem_mem hd) hA')
end
end Eyes

set_option Elab.async false
set_option linter.all false
set_option maxRecDepth 100000
set_option maxHeartbeats 4000000
namespace Eyes
open PySem PySem.Spec PyProof.Rows L2 Evl
/-! ### data in the heap -/
mutual
inductive Rep (H : Hp) : V → PyData → Prop
  | non : Rep H .non .none
  | bl (b : Bool) : Rep H (.bl b) (.bool b)
  | int (i : Int) : Rep H (.int i) (.int i)
  | str (x : Str) : Rep H (.str x) (.str x)
  | lst {a : Addr} {xs : List V} {ds : List PyData} : H a = some (.lst xs) → Reps H xs ds → Rep H (.ref a) (.list ds)
  | tup {a : Addr} {xs : List V} {ds : List PyData} : H a = some (.tup xs) → Reps H xs ds → Rep H (.ref a) (.tuple ds)
inductive Reps (H : Hp) : List V → List PyData → Prop
  | nil : Reps H [] []
  | cons {v : V} {vs : List V} {d : PyData} {ds : List PyData} : Rep H v d → Reps H vs ds → Reps H (v :: vs) (d :: ds)
end
mutual
theorem Rep.mono {H H' : Hp} (e : Ex H H') : ∀ {v : V} {d : PyData}, Rep H v d → Rep H' v d
  | _, _, .non => .non
  | _, _, .bl b => .bl b
  | _, _, .int i => .int i
  | _, _, .str x => .str x
  | _, _, .lst h r => .lst (e _ _ h) (Reps.mono e r)
  | _, _, .tup h r => .tup (e _ _ h) (Reps.mono e r)
theorem Reps.mono {H H' : Hp} (e : Ex H H') : ∀ {v : List V} {d : List PyData}, Reps H v d → Reps H' v d
  | _, _, .nil => .nil
  | _, _, .cons h r => .cons (Rep.mono e h) (Reps.mono e r)
end
theorem Reps.length {H : Hp} : ∀ {xs : List V} {ds : List PyData}, Reps H xs ds → xs.length = ds.length
  | _, _, .nil => rfl
  | _, _, .cons _ r => congrArg Nat.succ (Reps.length r)
theorem Reps.get {H : Hp} : ∀ {xs : List V} {ds : List PyData} {i : Nat} {x : V}, Reps H xs ds → xs[i]? = some x → ∃ d, ds[i]? = some d ∧ Rep H x d
  | _, _, _, _, .nil, e => by simp at e
  | _, _, 0, _, .cons h _, e => by
    simp at e
    subst e
    exact ⟨_, rfl, h⟩
  | _, _, i + 1, x, .cons _ r, e => by
    obtain ⟨d, h1, h2⟩ := Reps.get (i := i) (x := x) r (by simpa using e)
    exact ⟨d, by simpa using h1, h2⟩
mutual
def wid : PyData → Nat
  | .list xs => max xs.length (widAll xs)
  | .tuple xs => max xs.length (widAll xs)
  | .dict _ => 0
  | .none => 0
  | .bool _ => 0
  | .int _ => 0
  | .str _ => 0
def widAll : List PyData → Nat
  | [] => 0
  | x :: xs => max (wid x) (widAll xs)
end
def tyD : PyData → String
  | .none => "NoneType" | .bool _ => "bool" | .int _ => "int" | .str _ => "str" | .list _ => "list" | .tuple _ => "tuple" | .dict _ => "dict"
theorem Rep.ty {K : PySem.W.Frag} {H : Hp} {v : V} {d : PyData} (h : Rep H v d) : TyX K H v (.type (tyD d)) := by
  cases h with
  | non => exact .base .non
  | bl b => exact .base (.bl b)
  | int b => exact .base (.int b)
  | str b => exact .base (.str b)
  | lst h _ => exact .base (.lst h)
  | tup h _ => exact .base (.tup h)
theorem kit_t (K : PySem.W.Frag) {a b : String} (h : (kitB a b).isSome = true) : ∃ r, PySem.W.kitOne K (.type a) (.type b) = some r := by
  obtain ⟨r, e⟩ := Option.isSome_iff_exists.mp h
  exact ⟨r, kit_ty e⟩
theorem kit_list (K : PySem.W.Frag) : ∀ d : PyData, ∃ b, PySem.W.kitOne K (.type (tyD d)) (.type "list") = some b
  | .none => kit_t K (a := "NoneType") (by decide +kernel) | .bool _ => kit_t K (a := "bool") (by decide +kernel) | .int _ => kit_t K (a := "int") (by decide +kernel) | .str _ => kit_t K (a := "str") (by decide +kernel)
  | .list _ => kit_t K (a := "list") (by decide +kernel) | .tuple _ => kit_t K (a := "tuple") (by decide +kernel) | .dict _ => kit_t K (a := "dict") (by decide +kernel)
theorem kit_tuple (K : PySem.W.Frag) : ∀ d : PyData, ∃ b, PySem.W.kitOne K (.type (tyD d)) (.type "tuple") = some b
  | .none => kit_t K (a := "NoneType") (by decide +kernel) | .bool _ => kit_t K (a := "bool") (by decide +kernel) | .int _ => kit_t K (a := "int") (by decide +kernel) | .str _ => kit_t K (a := "str") (by decide +kernel)
  | .list _ => kit_t K (a := "list") (by decide +kernel) | .tuple _ => kit_t K (a := "tuple") (by decide +kernel) | .dict _ => kit_t K (a := "dict") (by decide +kernel)
theorem kit_bool (K : PySem.W.Frag) : ∀ d : PyData, ∃ b, PySem.W.kitOne K (.type (tyD d)) (.type "bool") = some b
  | .none => kit_t K (a := "NoneType") (by decide +kernel) | .bool _ => kit_t K (a := "bool") (by decide +kernel) | .int _ => kit_t K (a := "int") (by decide +kernel) | .str _ => kit_t K (a := "str") (by decide +kernel)
  | .list _ => kit_t K (a := "list") (by decide +kernel) | .tuple _ => kit_t K (a := "tuple") (by decide +kernel) | .dict _ => kit_t K (a := "dict") (by decide +kernel)
theorem kit_int (K : PySem.W.Frag) : ∀ d : PyData, ∃ b, PySem.W.kitOne K (.type (tyD d)) (.type "int") = some b
  | .none => kit_t K (a := "NoneType") (by decide +kernel) | .bool _ => kit_t K (a := "bool") (by decide +kernel) | .int _ => kit_t K (a := "int") (by decide +kernel) | .str _ => kit_t K (a := "str") (by decide +kernel)
  | .list _ => kit_t K (a := "list") (by decide +kernel) | .tuple _ => kit_t K (a := "tuple") (by decide +kernel) | .dict _ => kit_t K (a := "dict") (by decide +kernel)
theorem kit_str (K : PySem.W.Frag) : ∀ d : PyData, ∃ b, PySem.W.kitOne K (.type (tyD d)) (.type "str") = some b
  | .none => kit_t K (a := "NoneType") (by decide +kernel) | .bool _ => kit_t K (a := "bool") (by decide +kernel) | .int _ => kit_t K (a := "int") (by decide +kernel) | .str _ => kit_t K (a := "str") (by decide +kernel)
  | .list _ => kit_t K (a := "list") (by decide +kernel) | .tuple _ => kit_t K (a := "tuple") (by decide +kernel) | .dict _ => kit_t K (a := "dict") (by decide +kernel)
theorem kit_scal (K : PySem.W.Frag) {a : String} (h1 : kitB a "list" = some false) (h2 : kitB a "tuple" = some false) : PySem.W.kitAny K (.type a) [.type "list", .type "tuple"] = some false :=
  kitAny_cons (b := false) (kit_ty h1) (fun _ => kitAny_cons (b := false) (kit_ty h2) (fun _ => kitAny_nil) (fun z => nomatch z)) (fun z => nomatch z)
def seqD : PyData → Bool
  | .list _ => true | .tuple _ => true | _ => false
theorem kit_seq (K : PySem.W.Frag) : ∀ d : PyData, PySem.W.kitAny K (.type (tyD d)) [.type "list", .type "tuple"] = some (seqD d)
  | .none => kit_scal K (a := "NoneType") (by decide +kernel) (by decide +kernel) | .bool _ => kit_scal K (a := "bool") (by decide +kernel) (by decide +kernel)
  | .int _ => kit_scal K (a := "int") (by decide +kernel) (by decide +kernel) | .str _ => kit_scal K (a := "str") (by decide +kernel) (by decide +kernel) | .dict _ => kit_scal K (a := "dict") (by decide +kernel) (by decide +kernel)
  | .list _ => kitAny_cons (b := true) (kit_ty (a := "list") (by decide +kernel)) (fun z => nomatch z) (fun _ => rfl)
  | .tuple _ => kitAny_cons (b := false) (kit_ty (a := "tuple") (by decide +kernel)) (fun _ => kitAny_cons (b := true) (kit_ty (a := "tuple") (by decide +kernel)) (fun z => nomatch z) (fun _ => rfl)) (fun z => nomatch z)
theorem walk_zipT {K : PySem.W.Frag} {a b : Addr} {xs ys : List V} {n : Nat} (hn : n = min xs.length ys.length) : Walk (RZ.ItzT K a b) n (fun H => SqT K H a xs ∧ SqT K H b ys) (YPair (fun i => xs[i]?) (fun i => ys[i]?)) := by
  subst hn
  refine ⟨fun i _ hi q => ?_, fun _ q => ⟨xs, ys, q.1, q.2, by omega⟩, fun i H v H' _ q y => ?_⟩
  · have h1 : i < xs.length := by omega
    have h2 : i < ys.length := by omega
    exact ⟨xs, ys, xs[i], ys[i], q.1, q.2, by simp [h1], by simp [h2]⟩
  · obtain ⟨T, x, z, h1, h2, h3, h4, h5⟩ := y
    exact ⟨T, x, z, h1, h2, h3, h4 xs q.1, h5 ys q.2⟩
theorem iteDT {c A B : Prop} [Decidable c] (hc : c) (h : A) : if decide c = true then A else B := by
  rw [decide_eq_true hc, if_pos rfl]
  exact h
def spSame (n : Nat) : Sp := fun vs H Q _ => ∃ (x y : V) (d : PyData), vs = [x, y] ∧ Rep H x d ∧ Rep H y d ∧ d.depth < n ∧ wid d ≤ 90000 ∧ ∀ H', Ex H H' → Q (.bl true) H'
section
variable {P : Program} {w : World} {K : PySem.W.Frag} {mg : Str → Option Value} {base : Heap}
end
end Eyes

set_option Elab.async false
set_option linter.all false
set_option maxRecDepth 100000
set_option maxHeartbeats 4000000
namespace Eyes
open PySem PySem.Spec PyProof.Rows L2 Evl TL
def spPs (K : PySem.W.Frag) (C : Addr) (ok : List Ci → Prop) (g : List Ci → V) : Sp := fun vs H Q _ => ∃ (l : Addr) (us : List V) (ps : List Ci), vs = [.ref l] ∧ SqL K H l us ∧ CisAt C H us ps ∧ us.length ≤ 90000 ∧ ok ps ∧ ∀ H', Ex H H' → Q (g ps) H'
def spCi (C : Addr) (ok : Ci → Prop) (g : Ci → V) : Sp := fun vs H Q _ => ∃ (v : V) (c : Ci), vs = [v] ∧ CiAt C H v c ∧ ok c ∧ ∀ H', Ex H H' → Q (g c) H'
def spParts (C : Addr) : Sp := fun vs H Q _ => ∃ (p dx lp : Addr) (us : List V) (kind name : Str) (s d : Int) (t : Str), vs = [.ref p] ∧ H p = some (.ins C dx (flds kind name lp s d t)) ∧ H lp = some (.lst us) ∧ ∀ l, H l = none → Q (.ref l) (upd H l (.lst us))
section
variable {P : Program} {w : World} {K : PySem.W.Frag} {mg : Str → Option Value} {base : Heap} {AA : Adr}
end
end Eyes

set_option Elab.async false
set_option linter.all false
set_option maxRecDepth 100000
set_option maxHeartbeats 4000000
namespace Eyes
open PySem PySem.Spec PyProof.Rows L2 Evl TL
def inner (c : Ci) : Str := ⟨(wrapL c c.tx).toArray⟩
def spTextOf (K : PySem.W.Frag) (C : Addr) : Sp := fun vs H Q _ => ∃ (l : Addr) (us : List V) (k : Bool) (ps : List Ci), vs = [.str (kindS k), .ref l] ∧ SqL K H l us ∧ CisAt C H us ps ∧ us.length ≤ 900 ∧ (∀ c ∈ ps, c.str.length ≤ 900) ∧ ∀ H', Ex H H' → Q (.str (Ci.node k ps).str) H'
section
variable {P : Program} {w : World} {K : PySem.W.Frag} {mg : Str → Option Value} {base : Heap} {AA : Adr}
end
end Eyes

set_option Elab.async false
set_option linter.all false
set_option maxRecDepth 100000
set_option maxHeartbeats 4000000
namespace Eyes
open PySem PySem.Spec PyProof.Rows L2 Evl TL
def SqLT (K : PySem.W.Frag) (H : Hp) (a : Addr) (xs : List V) : Prop := SqL K H a xs ∨ SqT K H a xs
theorem ex_lt {K : PySem.W.Frag} {H H' : Hp} {a : Addr} {xs : List V} (e : Ex H H') (h : SqLT K H a xs) : SqLT K H' a xs := h.imp (ex_l e) (ex_t e)
theorem for_lt {K : PySem.W.Frag} {j : Nat} {a : Addr} {xs : List V} {g : TG} {tb : TS} {D : Ends} {σ : L2.St} {H : Hp} (hj : σ[j]? = some (some (.ref a))) {G : Hp} (hx : SqLT K G a xs) (e0 : Ex G H) (Pv : Nat → L2.St → Hp → Prop) (h0 : Pv 0 σ H) (hl : ∀ i σ H', Pv i σ H' → Ex G H')
    (hs : ∀ i x σ H, xs[i]? = some x → Pv i σ H → g x σ H fun σ2 H2 => tb { D with nx := Pv (i + 1), ct := Pv (i + 1), bk := D.nx } σ2 H2) (hd : ∀ σ H, Pv xs.length σ H → D.nx σ H) {R : It → Hp → Prop}
    (hR : ∀ J H1, (∃ W : Nat → Nat → L2.St → Hp → Prop, (∃ m, W 0 m σ H1) ∧ ∀ i m σ H, W i m σ H →
      (J.stop i H ∧ D.nx σ H) ∨ (J.go i H ∧ ∃ N : L2.St → Hp → Prop, (∀ σ' H', N σ' H' → ∃ m', m' < m ∧ W (i + 1) m' σ' H') ∧ ∀ x H', J.yld i H x H' → g x σ H' fun σ2 H2 => tb { D with nx := N, ct := N, bk := D.nx } σ2 H2)) = R J H1) :
    iList K (tVar j) σ H R ∨ iTup K (tVar j) σ H R := by
  rcases hx with h | h
  · refine .inl ⟨_, hj, a, rfl, ⟨xs, ex_l e0 h⟩, ?_⟩
    rw [← hR]
    exact for_list Pv h0 (fun i σ H' _ p => ex_l (hl i σ H' p) h) hs hd
  · refine .inr ⟨_, hj, a, rfl, ⟨xs, ex_t e0 h⟩, ?_⟩
    rw [← hR]
    exact for_tup Pv h0 (fun i σ H' _ p => ex_t (hl i σ H' p) h) hs hd
def spFlat (K : PySem.W.Frag) (C : Addr) : Sp := fun vs H Q _ => ∃ (l : Addr) (us : List V) (k : Bool) (cs : List Ci), vs = [.str (kindS k), .ref l] ∧ SqLT K H l us ∧ CisAt C H us cs ∧ (flat k cs).length ≤ 90000 ∧ ∀ l2 ws H', H l2 = none → Ex H H' → H' l2 = some (.lst ws) → CisAt C H ws (flat k cs) → Q (.ref l2) H'
def spDd (K : PySem.W.Frag) (C : Addr) : Sp := fun vs H Q _ => ∃ (l : Addr) (us : List V) (cs : List Ci), vs = [.ref l] ∧ SqL K H l us ∧ CisAt C H us cs ∧ cs.length ≤ 90000 ∧ (∀ c ∈ cs, c.str.length ≤ 900) ∧ ∀ l2 ws H', H l2 = none → Ex H H' → H' l2 = some (.lst ws) → CisAt C H ws (dd [] cs) → Q (.ref l2) H'
section
variable {P : Program} {w : World} {K : PySem.W.Frag} {mg : Str → Option Value} {base : Heap} {AA : Adr}
end
end Eyes

set_option Elab.async false
set_option linter.all false
set_option maxRecDepth 100000
set_option maxHeartbeats 4000000
namespace Eyes
open PySem PySem.Spec PyProof.Rows L2 Evl TL
def spInit (K : PySem.W.Frag) (C : Addr) : Sp := fun vs H Q _ => ∃ (x dx l : Addr) (us : List V) (c : Ci) (G : Hp), vs = [.ref x, .str c.kind, .str c.name, .ref l] ∧ G x = none ∧ Ex G H ∧ H x = some (.ins C dx []) ∧ SqL K G l us ∧ CisAt C G us c.parts ∧ us.length ≤ 900 ∧ (∀ d ∈ c.parts, d.str.length ≤ 900) ∧ (∀ k, c ≠ .node k []) ∧
  ∀ H', Ex G H' → CiAt C H' (.ref x) c → Q .non H'
theorem ex_both {G H : Hp} {p : Addr} {o : HO} (e : Ex G H) : Ex (upd G p o) (upd H p o) := fun a u h => by
  by_cases ha : a = p
  · subst ha
    rw [upd_same] at h ⊢
    exact h
  · rw [upd_ne ha] at h ⊢
    exact e a u h
section
variable {P : Program} {w : World} {K : PySem.W.Frag} {mg : Str → Option Value} {base : Heap} {AA : Adr}
end
end Eyes

set_option Elab.async false
set_option linter.all false
set_option maxRecDepth 100000
set_option maxHeartbeats 4000000
namespace Eyes
open PySem PySem.Spec PyProof.Rows L2 Evl TL
theorem kit_self {K : PySem.W.Frag} {C : Addr} : PySem.W.kitOne K (.ref C) (.ref C) = some true := by
  unfold PySem.W.kitOne
  have e : (Value.ref C == Value.ref C) = true := by simp
  rw [e]
  rfl
def spBuilt (K : PySem.W.Frag) (C : Addr) : Sp := fun vs H Q _ => ∃ (l : Addr) (us : List V) (k : Bool) (cs : List Ci), vs = [.str (kindS k), .ref l] ∧ SqLT K H l us ∧ CisAt C H us cs ∧ Good k cs ∧ ∀ v H', Ex H H' → CiAt C H' v (mkC k cs) → Q v H'
def spSign (C : Addr) (k : Bool) : Sp := fun vs H Q _ => ∃ (x y : V) (c d : Ci), vs = [x, y] ∧ CiAt C H x c ∧ CiAt C H y d ∧ Good k [c, d] ∧ ∀ v H', Ex H H' → CiAt C H' v (mkC k [c, d]) → Q v H'
section
variable {P : Program} {w : World} {K : PySem.W.Frag} {mg : Str → Option Value} {base : Heap} {AA : Adr}
end
end Eyes

set_option Elab.async false
set_option linter.all false
set_option maxRecDepth 100000
set_option maxHeartbeats 4000000
namespace Eyes
open PySem PySem.Spec PyProof.Rows L2 Evl TL
theorem Rep.node {H : Hp} {v : V} {c : Ci} (h : Rep H v c.data) : ∃ (a : Addr) (x : V), v = .ref a ∧ H a = some (.tup [.str c.kind, x]) ∧ (∀ n, c = .eye n → x = .str n) ∧ (∀ k ps, c = .node k ps → ∃ b ws, x = .ref b ∧ H b = some (.tup ws) ∧ Reps H ws (datas ps)) := by
  cases c with
  | eye n =>
    have h : Rep H v (.tuple [.str "eye", .str n]) := h
    cases h with
    | tup h r =>
      cases r with
      | cons h1 r =>
        cases r with
        | cons h2 r =>
          cases r
          cases h1
          cases h2
          exact ⟨_, _, rfl, h, fun m e => (by injection e with e; rw [e]), fun k ps e => (by cases e)⟩
  | node k ps =>
    have h : Rep H v (.tuple [.str (kindS k), .tuple (datas ps)]) := h
    cases h with
    | tup h r =>
      cases r with
      | cons h1 r =>
        cases r with
        | cons h2 r =>
          cases r
          cases h1
          cases h2 with
          | tup h3 r3 => exact ⟨_, _, rfl, h, fun m e => (by cases e), fun j qs e => (by injection e with e1 e2; rw [← e2]; exact ⟨_, _, rfl, h3, r3⟩)⟩
theorem Reps.append {H : Hp} : ∀ {us ws : List V} {cs ds : List PyData}, Reps H us cs → Reps H ws ds → Reps H (us ++ ws) (cs ++ ds)
  | _, _, _, _, .nil, s => s
  | _, _, _, _, .cons h r, s => .cons h (Reps.append r s)
mutual
theorem Rep.dp {K : PySem.W.Frag} {H : Hp} : ∀ {v : V} {d : PyData}, Rep H v d → Dp K H v d
  | _, _, .non => .non
  | _, _, .bl b => .bl b
  | _, _, .int i => .int i
  | _, _, .str x => .str x
  | _, _, .lst h r => .lst (sq_of h) (Reps.dp r)
  | _, _, .tup h r => .tup (st_of h) (Reps.dp r)
theorem Reps.dp {K : PySem.W.Frag} {H : Hp} : ∀ {v : List V} {d : List PyData}, Reps H v d → DpAll K H v d
  | _, _, .nil => .nil
  | _, _, .cons h r => .cons (Rep.dp h) (Reps.dp r)
end
section
variable {P : Program} {w : World} {K : PySem.W.Frag} {mg : Str → Option Value} {base : Heap} {AA : Adr}
def spJoin (K : PySem.W.Frag) : Sp := fun vs H Q _ => ∃ (l : Addr) (us : List V) (k : Bool) (cs : List Ci), vs = [.str (kindS k), .ref l] ∧ SqL K H l us ∧ Reps H us (datas cs) ∧ (∀ c ∈ cs, c.ok) ∧ (∀ c ∈ cs, c.depth ≤ 25) ∧ (flat k cs).length ≤ 90000 ∧ ∀ v H', Ex H H' → Rep H' v (mkC k cs).data → Q v H'
end
end Eyes

set_option Elab.async false
set_option linter.all false
set_option maxRecDepth 100000
set_option maxHeartbeats 4000000
namespace Eyes
open PySem PySem.Spec PyProof.Rows L2 Evl

abbrev letters : Str := "abcdefghijklmnopqrstuvwxyz"
/-! ### values of all kinds -/
inductive Tk where
  | s (z : Str) | i (n : Int) | b (c : Bool) | o
def okS (z : Str) : Prop := z.length ≤ 1000 ∧ ∀ c ∈ z.cps.toList, c < 128
def Knd (K : PySem.W.Frag) (H : Hp) (v : V) : Tk → Prop
  | .s z => v = .str z ∧ okS z
  | .i n => v = .int n
  | .b c => v = .bl c
  | .o => ∃ t, TyX K H v t ∧ PySem.W.kitOne K t (.type "str") = some false ∧ PySem.W.kitOne K t (.type "int") = some false ∧ PySem.W.kitOne K t (.type "bool") = some false
theorem TyX.mono {K : PySem.W.Frag} {H H' : Hp} {v : V} {t : Value} (e : Ex H H') (h : TyX K H v t) : TyX K H' v t := by
  cases h with
  | base h =>
    cases h with
    | non => exact .base .non
    | bl b => exact .base (.bl b)
    | int b => exact .base (.int b)
    | str b => exact .base (.str b)
    | flt b => exact .base (.flt b)
    | lst h => exact .base (.lst (e _ _ h))
    | frz h => exact .base (.frz (e _ _ h))
    | tup h => exact .base (.tup (e _ _ h))
    | dK h => exact .base (.dK (e _ _ h))
    | dT h => exact .base (.dT (e _ _ h))
    | ins h h1 h2 h3 h4 h5 => exact .base (.ins (e _ _ h) h1 h2 h3 h4 h5)
  | byt b => exact .byt b
  | set h => exact .set (e _ _ h)
  | kList h c => exact .kList h c
  | kTuple h c => exact .kTuple h c
  | kDict h c => exact .kDict h c
  | fTuple h => exact .fTuple (e _ _ h)
  | fDict h => exact .fDict (e _ _ h)
theorem Knd.mono {K : PySem.W.Frag} {H H' : Hp} {v : V} {k : Tk} (e : Ex H H') (h : Knd K H v k) : Knd K H' v k := by
  cases k with
  | s z => exact h
  | i n => exact h
  | b c => exact h
  | o => obtain ⟨t, h1, h2⟩ := h; exact ⟨t, TyX.mono e h1, h2⟩
def isS : Tk → Bool | .s _ => true | _ => false
def isI : Tk → Bool | .i _ => true | .b _ => true | _ => false
def isB : Tk → Bool | .b _ => true | _ => false
theorem Knd.ty {K : PySem.W.Frag} {H : Hp} {v : V} {k : Tk} (h : Knd K H v k) : ∃ t, TyX K H v t ∧ PySem.W.kitOne K t (.type "str") = some (isS k) ∧ PySem.W.kitOne K t (.type "int") = some (isI k) ∧ PySem.W.kitOne K t (.type "bool") = some (isB k) := by
  cases k with
  | s z => obtain ⟨rfl, _⟩ := h; exact ⟨_, .base (.str z), kit_ty (r := true) (by decide +kernel), kit_ty (r := false) (by decide +kernel), kit_ty (r := false) (by decide +kernel)⟩
  | i n => cases h; exact ⟨_, .base (.int n), kit_ty (r := false) (by decide +kernel), kit_ty (r := true) (by decide +kernel), kit_ty (r := false) (by decide +kernel)⟩
  | b c => cases h; exact ⟨_, .base (.bl c), kit_ty (r := false) (by decide +kernel), kit_ty (r := true) (by decide +kernel), kit_ty (r := true) (by decide +kernel)⟩
  | o => exact h
def nameS (z : Str) : Bool := decide (1 ≤ z.length) && decide (z.length ≤ 6) && z.cps.toList.all fun c => decide (c ∈ letters.cps.toList)
def nameK : Tk → Bool | .s z => nameS z | _ => false
def numK (lo hi : Int) : Tk → Bool | .i n => decide (lo ≤ n) && decide (n ≤ hi) | _ => false
def spName (K : PySem.W.Frag) : Sp := fun vs H Q _ => ∃ (v : V) (k : Tk), vs = [v] ∧ Knd K H v k ∧ ∀ H', Ex H H' → Q (.bl (nameK k)) H'
def spNum (K : PySem.W.Frag) : Sp := fun vs H Q _ => ∃ (v : V) (k : Tk) (lo hi : Int), vs = [v, .int lo, .int hi] ∧ Knd K H v k ∧ Q (.bl (numK lo hi k)) H
section
variable {P : Program} {w : World} {K : PySem.W.Frag} {mg : Str → Option Value} {base : Heap} {AA : Adr}
theorem ok_is_name (T : Txt K mg AA) : Pr P w K mg base "is_name" s_is_name p_is_name 1 (spName K) := by
  refine pr_mk T.f_is_name sc_is_name (fun vs H Q E h => ?_) (fun f cdv A outer s H vs Q E hr h => ?_)
  · obtain ⟨v, k, rfl, _⟩ := h
    rfl
  · obtain ⟨v, k, rfl, hk, q⟩ := h
    obtain ⟨t, ht, hs, hi, hb⟩ := hk.ty
    refine ⟨_, (pss_cons (ps_if (PW.pt (pw_or (pt_not (pt_val (pe_callB (call_isiK (K := K) rfl) (by rfl) T.n_isinstance PyProof.Rows.boot_isinstance (pa_cons (pv 0) (pa_cons (pe_bltn (v := .ty "str") (by rfl) T.n_str (by decide +kernel) rfl) pa_nil))))) (pw_or1 (pt_not (pt_chain op_le op_le pe_int (pe_callB call_len_str (by rfl) T.n_len PySem.boot_len (pa_cons (pv 0) pa_nil)) (pgI T.m_MOST_LETTERS))))))
      (pss_one (ps_ret pe_bl))
      pss_nil)
      (pss_one (ps_ret (pe_callB (cr_all rfl) (by rfl) T.n_all PyProof.Rows.boot_all (pa_cons (pe_lc (own := [("letter", 1)]) (g := gName 1) (tt := tYes) rfl sc_is_name.nd (pi_str (pv 0)) (blkOk_by (own := [("letter", 1)]) (N := n_is_name) (sc := defScope s_is_name) (by decide +kernel)) (fun _ _ _ _ _ => (pg_name (i := 1) sc_is_name.nd rfl (.inl rfl))) (fun _ _ _ _ _ => pts_nil) (fun _ _ _ _ _ => (pe_cmpR op_in_sign (pv 1) (pgS T.m_LETTERS) rfl))) pa_nil))))), ?_⟩
    refine ⟨_, rfl, v, .ty "str", _, _, _, rfl, .ty _, ht, hs, _, rfl, ?_⟩
    cases k with
    | s z =>
      obtain ⟨rfl, hz, hz2⟩ := hk
      refine iteF ?_
      -- 1 <= len(value) <= MOST_LETTERS
      refine ⟨_, rfl, z, rfl, sz_of (by omega), 1, z.length, rfl, rfl, _, rfl, ite2 (fun h1 => ?_) (fun h1 => ?_)⟩
      · refine ⟨z.length, 6, rfl, rfl, _, rfl, ?_⟩
        have h1 : 1 ≤ z.length := by have := of_decide_eq_true h1; omega
        by_cases h6 : z.length ≤ 6
        · have e6 : decide (((z.length : Nat) : Int) ≤ 6) = true := decide_eq_true (by omega)
          rw [e6]
          refine iteF ?_
          -- all([letter in LETTERS for letter in value])
          refine ⟨_, rfl, z, rfl, fun D hD => lc_it (walk_str (z := z)) (fun i H' => H D = none ∧ Ex H H' ∧ H' D = some (.lst ((z.cps.toList.take i).map fun c => V.bl (decide (c ∈ letters.cps.toList))))) ⟨hD, Ex.new hD, upd_same⟩ (fun _ _ _ _ => True.intro) (fun i v H3 H4 hi hp hy => ?_) (fun H' hp => ?_)⟩
          · obtain ⟨rfl, c, hc, rfl⟩ := hy
            obtain ⟨h1', h2', h3'⟩ := hp
            refine ⟨rfl, _, rfl, c, letters, rfl, rfl, _, h3', ?_, h1', h2'.mut h1', ?_⟩
            · rw [List.length_map, List.length_take]
              exact sz_lt (by have : z.cps.size = z.length := rfl; omega)
            · have hc' : z.cps.toList[i]? = some c := by rw [Array.getElem?_toList]; exact hc
              rw [upd_same, List.take_add_one, hc', List.map_append]
              rfl
          · refine ⟨D, z.cps.toList.map fun c => decide (c ∈ letters.cps.toList), rfl, sq_of (hp.2.2.trans ?_), ?_⟩
            · rw [List.take_of_length_le (by rw [Array.length_toList]; exact Nat.le_refl _), List.map_map]
              rfl
            · have e : (z.cps.toList.map fun c => decide (c ∈ letters.cps.toList)).all id = nameK (.s z) := by
                show _ = nameS z
                unfold nameS
                rw [decide_eq_true h1, decide_eq_true h6, List.all_map]
                rfl
              rw [e]
              exact q _ hp.2.1
        · have e6 : decide (((z.length : Nat) : Int) ≤ 6) = false := decide_eq_false (by omega)
          rw [e6]
          refine iteT ?_
          have e : nameK (.s z) = false := by
            show nameS z = false
            unfold nameS
            rw [decide_eq_false h6, Bool.and_false]
            rfl
          rw [e] at q
          exact q _ (Ex.refl _)
      · refine ⟨_, rfl, iteT ?_⟩
        have h1 : ¬ 1 ≤ z.length := fun h => h1 (decide_eq_true (by omega))
        have e : nameK (.s z) = false := by
          show nameS z = false
          unfold nameS
          rw [decide_eq_false h1]
          rfl
        rw [e] at q
        exact q _ (Ex.refl _)
    | i n => exact iteT (iteT (q _ (Ex.refl _)))
    | b c => exact iteT (iteT (q _ (Ex.refl _)))
    | o => exact iteT (iteT (q _ (Ex.refl _)))
end
end Eyes

set_option Elab.async false
set_option linter.all false
set_option maxRecDepth 100000
set_option maxHeartbeats 4000000
namespace Eyes
open PySem PySem.Spec PyProof.Rows L2 Evl TL
def spWords (n : Nat) : Sp := fun vs H Q _ => ∃ (v : V) (c : Ci), vs = [v] ∧ Rep H v c.data ∧ c.depth < n ∧ c.fine ∧ ∀ H', Ex H H' → Q (.str c.str) H'
def Ci.big (c : Ci) : Prop := c.ok ∧ c.size ≤ 9000
theorem Ci.fine.big {c : Ci} (h : c.fine) : c.big := ⟨h.1, Nat.le_trans h.2 (by decide)⟩
def spNumC (g : Ci → Nat) (n : Nat) : Sp := fun vs H Q _ => ∃ (v : V) (c : Ci), vs = [v] ∧ Rep H v c.data ∧ c.depth < n ∧ c.big ∧ ∀ H', Ex H H' → Q (.int (g c)) H'
def spCirc (C : Addr) (n : Nat) : Sp := fun vs H Q _ => ∃ (v : V) (c : Ci), vs = [v] ∧ Rep H v c.data ∧ c.depth < n ∧ c.depth ≤ 20 ∧ c.size ≤ 60 ∧ c.norm ∧ ∀ v H', Ex H H' → CiAt C H' v c → Q v H'
section
variable {P : Program} {w : World} {K : PySem.W.Frag} {mg : Str → Option Value} {base : Heap} {AA : Adr}
theorem cut_from (xs : List V) : cutV xs (some 1) none = xs.drop 1 := by
  show cutV xs (some ((1 : Nat) : Int)) none = _
  unfold cutV
  rw [HT.sIx_none, HT.sIx_nat]
  cases xs with
  | nil => rfl
  | cons x r =>
    rw [Nat.min_eq_left (by simp)]
    show (r.take _) = r
    rw [List.take_of_length_le (by simp)]
theorem nm_name {n : Str} (h : nm n) : nameS n = true := by
  unfold nameS
  rw [decide_eq_true h.1, decide_eq_true h.2.1]
  show (n.cps.toList.all fun c => decide (c ∈ letters.cps.toList)) = true
  rw [List.all_eq_true]
  intro c hc
  have h2 := h.2.2 c hc
  refine decide_eq_true ?_
  have h3 : letters.cps.toList = (List.range 26).map (· + 97) := by decide +kernel
  rw [h3, List.mem_map]
  exact ⟨c - 97, by rw [List.mem_range]; omega, by omega⟩
theorem nm_okS {n : Str} (h : nm n) : okS n := ⟨by have := h.2.1; omega, fun c hc => by have := h.2.2 c hc; omega⟩
def spEye (C : Addr) : Sp := fun vs H Q _ => ∃ (z : Str), vs = [.str z] ∧ nm z ∧ ∀ v H', Ex H H' → CiAt C H' v (.eye z) → Q v H'
end
end Eyes

set_option Elab.async false
set_option linter.all false
set_option maxRecDepth 100000
set_option maxHeartbeats 4000000
namespace Eyes
open PySem PySem.Spec PyProof.Rows L2 Evl TL
theorem joinL_nil : ∀ l : List (List Nat), joinL [] l = l.flatten
  | [] => rfl
  | [p] => by simp [joinL]
  | p :: q :: r => by
    show p ++ ([] ++ joinL [] (q :: r)) = _
    rw [joinL_nil (q :: r)]
    simp
theorem join_signs (cs : List Nat) : tl (Txt.join ("" : Str) (cs.map fun c => ⟨#[c]⟩)) = cs := by
  rw [join_eq, tl_join, show tl ("" : Str) = [] by decide +kernel, joinL_nil, List.map_map]
  induction cs with
  | nil => rfl
  | cons c cs ih =>
    rw [List.map_cons, List.flatten_cons, ih]
    rfl
theorem sum_signs {cs : List Nat} (h : cs.length ≤ 1000) : ((cs.map fun c => (⟨#[c]⟩ : Str)).map (·.length)).sum + (cs.map fun c => (⟨#[c]⟩ : Str)).length * Str.length ("" : Str) ≤ 16777216 := by
  have e : ((cs.map fun c => (⟨#[c]⟩ : Str)).map (·.length)).sum ≤ cs.length := by
    clear h
    induction cs with
    | nil => exact Nat.le_refl _
    | cons c cs ih =>
      rw [List.map_cons, List.map_cons, List.sum_cons, List.length_cons]
      have : (⟨#[c]⟩ : Str).length = 1 := rfl
      omega
  have e2 : ((cs.map fun c => (⟨#[c]⟩ : Str)).length * Str.length ("" : Str)) = 0 := by
    rw [show Str.length ("" : Str) = 0 by decide +kernel, Nat.mul_zero]
  omega
theorem flat_strs (ts : List Str) : (ts.map V.str).all flatV = true := by
  rw [List.all_map, List.all_eq_true]
  intro t _
  rfl
theorem low_of {z : Str} (h : (z.cps.toList.all fun c => decide (97 ≤ c) && decide (c ≤ 122)) = true) : ∀ c ∈ z.cps.toList, 97 ≤ c ∧ c ≤ 122 := fun c hc => by
  have := List.all_eq_true.mp h c hc
  rw [Bool.and_eq_true] at this
  exact ⟨of_decide_eq_true this.1, of_decide_eq_true this.2⟩
def nmB (z : Str) : Bool := decide (1 ≤ z.length) && decide (z.length ≤ 6) && z.cps.toList.all fun c => decide (97 ≤ c) && decide (c ≤ 122)
theorem nm_of {z : Str} (h : nmB z = true) : nm z := by
  unfold nmB at h
  rw [Bool.and_eq_true, Bool.and_eq_true] at h
  exact ⟨of_decide_eq_true h.1.1, of_decide_eq_true h.1.2, low_of h.2⟩
def nmV : V → Bool | .str z => nmB z | _ => false
theorem nms_of {l : List V} {v : V} (h : l.all nmV = true) (hv : v ∈ l) : ∃ y, v = .str y ∧ nm y := by
  have := List.all_eq_true.mp h v hv
  cases v with
  | str y => exact ⟨y, rfl, nm_of this⟩
  | _ => cases this
theorem free_sign {z : Str} {ts : List Str} (h1 : z.cps.toList.Nodup) (h2 : ts.length < z.length) : (z.cps.toList.filter fun c => !inV (.str ⟨#[c]⟩) (ts.map V.str)) ≠ [] := by
  intro h
  have h3 : ∀ c ∈ z.cps.toList, (⟨#[c]⟩ : Str) ∈ ts := fun c hc => by
    have h4 : ¬ (!inV (.str ⟨#[c]⟩) (ts.map V.str)) = true := fun g => by
      have : c ∈ z.cps.toList.filter fun c => !inV (.str ⟨#[c]⟩) (ts.map V.str) := List.mem_filter.mpr ⟨hc, g⟩
      rw [h] at this
      cases this
    have h5 : inV (.str ⟨#[c]⟩) (ts.map V.str) = true := by simpa using h4
    unfold inV at h5
    rw [List.any_map, List.any_eq_true] at h5
    obtain ⟨t, ht, e⟩ := h5
    have e : (t == (⟨#[c]⟩ : Str)) = true := e
    rw [← (by simpa using e : t = ⟨#[c]⟩)]
    exact ht
  have h6 : (z.cps.toList.map fun c => (⟨#[c]⟩ : Str)).Nodup := by
    refine List.pairwise_map.mpr (h1.imp fun {a b} hn hab => hn ?_)
    injection hab with hab
    simpa using hab
  have h7 := List.Nodup.length_le_of_subset (l₁ := z.cps.toList.map fun c => (⟨#[c]⟩ : Str)) (l₂ := ts) h6 fun x hx => by
    obtain ⟨c, hc, rfl⟩ := List.mem_map.mp hx
    exact h3 c hc
  rw [List.length_map, Array.length_toList] at h7
  have : z.cps.size = z.length := rfl
  omega
def spTtl : Sp := fun vs H Q _ => ∃ (b tk : Addr) (G : Hp) (ts : List Str), vs = [.ref b, .ref tk] ∧ At b G H ∧ G tk = some (.lst (ts.map V.str)) ∧ ts.length ≤ 20 ∧ ∀ z H', nm z → At b G H' → Q (.str z) H'
section
variable {P : Program} {w : World} {K : PySem.W.Frag} {mg : Str → Option Value} {base : Heap} {AA : Adr}
theorem ok_law_title (T : Txt K mg AA) : Pr P w K mg base "_law_title" s_law_title p_law_title 3 spTtl := by
  refine pr_mk T.f_law_title sc_law_title (fun vs H Q E h => ?_) (fun f cdv A outer s H vs Q E hr h => ?_)
  · obtain ⟨b, tk, G, ts, rfl, _⟩ := h
    rfl
  · obtain ⟨b, tk, G, ts, rfl, hA, hT, hts, q⟩ := h
    refine ⟨_, (Evl.pss_cut (ps_if (pt_cmpR op_eq (pcall (ok_law_draw T) hr (pa_cons (pv 0) (pa_cons pe_int pa_nil))) pe_int (nomark _))
      (pss_one (ps_set (i := 2) sc_law_title.nd rfl (.inl rfl) (pcall (ok_law_of T) hr (pa_cons (pv 0) (pa_cons (pe_lst (pa_cons pe_str (pa_cons pe_str (pa_cons pe_str (pa_cons pe_str (pa_cons pe_str (pa_cons pe_str (pa_cons pe_str (pa_cons pe_str (pa_cons pe_str (pa_cons pe_str (pa_cons pe_str pa_nil)))))))))))) pa_nil)))))
      (pss_one (ps_set (i := 2) sc_law_title.nd rfl (.inl rfl) (pe_join pe_str (pe_lc (own := [("_law_k", 3)]) (g := gName 3) (tt := tYes) rfl sc_law_title.nd (pi_range1 (by rfl) T.n_range (pa_cons (pe_op op_add pe_int (pcall (ok_law_draw T) hr (pa_cons (pv 0) (pa_cons pe_int pa_nil)))) pa_nil)) (blkOk_by (own := [("_law_k", 3)]) (N := n_law_title) (sc := defScope s_law_title) (by decide +kernel)) (fun _ _ _ _ _ => (pg_name (i := 3) sc_law_title.nd rfl (.inl rfl))) (fun _ _ _ _ _ => pts_nil) (fun _ _ _ _ _ => (pcall (ok_law_of T) hr (pa_cons (pv 0) (pa_cons pe_str pa_nil)))))))))
      (pss_cons (ps_if (pt_cmpR (op_in_seqK (K := K) rfl) (pv 2) (pv 1) (by rfl))
      (pss_one (ps_set (i := 2) sc_law_title.nd rfl (.inl rfl) (pe_ix (ix_listK (K := K) rfl) (pe_lc (own := [("_law_sign", 4)]) (g := gName 4) rfl sc_law_title.nd (pi_str pe_str) (blkOk_by (own := [("_law_sign", 4)]) (N := n_law_title) (sc := defScope s_law_title) (by decide +kernel)) (fun _ _ _ _ _ => (pg_name (i := 4) sc_law_title.nd rfl (.inl rfl))) (fun _ _ _ _ _ => (pts_one (pt_cmpR (op_notIn_seqK (K := K) rfl) (pv 4) (pv 1) (by rfl)))) (fun _ _ _ _ _ => (pv 4))) pe_int (fun _ _ => rfl))))
      pss_nil)
      (pss_one (ps_ret (pv 2))))), ?_⟩
    refine ⟨fun σ H' => ∃ (z : Str) (y3 y4 : Option V), σ = [some (.ref b), some (.ref tk), some (.str z), y3, y4] ∧ nm z ∧ At b G H', ?_, fun σ H' hM => ?_⟩
    · refine ⟨_, rfl, b, 7, G, rfl, hA, by decide, by decide, fun tn H1 t0 t1 hA1 => ⟨rfl, _, rfl, ite2 (fun hb => ?_) (fun hb => ?_)⟩⟩
      · refine ⟨_, rfl, by show 11 ≤ sizeLine; decide, fun p hp => ?_⟩
        refine ⟨b, .ref p, _, _, rfl, hA1.new hp, .inl ⟨p, rfl, sq_of upd_same⟩, by decide +kernel, by decide +kernel, fun v H6 hv hA6 => ?_⟩
        have hA7 := hA6.weak (Ex.new (hA1.nh hp))
        obtain ⟨y, rfl, hy⟩ := nms_of (by decide +kernel) hv
        exact ⟨y, none, none, rfl, hy, hA7⟩
      · refine ⟨⟨_, rfl⟩, _, rfl, b, 6, G, rfl, hA1, by decide, by decide, fun sz H2 z0 z1 hA2 => ?_⟩
        refine ⟨1, sz, rfl, rfl, _, rfl, by omega, by omega, fun D hD => lc_it walk_range (fun i H' => ∃ cs : List Nat, cs.length = i ∧ (∀ c ∈ cs, 97 ≤ c ∧ c ≤ 122) ∧ At b (upd G D (.lst (cs.map fun c => V.str ⟨#[c]⟩))) H')
          ⟨[], rfl, (fun c hc => by cases hc), hA2.new hD⟩ (fun _ _ _ _ => True.intro) (fun i v H3 H4 hi hp hy => ?_) (fun H' hp => ?_)⟩
        · obtain ⟨rfl, rfl⟩ := hy
          obtain ⟨cs, hl, hc, hA3⟩ := hp
          refine ⟨rfl, ?_⟩
          refine ⟨_, rfl, b, _, _, _, rfl, hA3, .inr (.inr ⟨_, rfl, by decide +kernel, rfl⟩), by decide +kernel, by decide +kernel, fun v H5 hv hA5 => ?_⟩
          obtain ⟨c, hcm, rfl⟩ := List.mem_map.mp hv
          have hlo := low_of (by decide +kernel) c hcm
          refine ⟨_, hA5.ex _ _ upd_same, ?_, cs ++ [c], by simp [hl], ?_, ?_⟩
          · rw [List.length_map]
            exact sz_lt (by omega)
          · intro d hd
            rcases List.mem_append.mp hd with h | h
            · exact hc d h
            · rw [List.mem_singleton.mp h]
              exact hlo
          · rw [List.map_append]
            exact hA5.put
        · obtain ⟨cs, hl, hc, hA3⟩ := hp
          have hlen : cs.length ≤ 6 := by omega
          have hlen1 : 1 ≤ cs.length := by omega
          refine ⟨"", D, cs.map fun c => ⟨#[c]⟩, rfl, rfl, .inl (sq_of ((hA3.ex _ _ upd_same).trans (by rw [List.map_map]; rfl))), sum_signs (by omega), ?_⟩
          have hz : nm (Txt.join ("" : Str) (cs.map fun c => ⟨#[c]⟩)) := by
            have e := join_signs cs
            refine ⟨by rw [len_tl, e]; exact hlen1, by rw [len_tl, e]; exact hlen, fun c h => ?_⟩
            rw [e] at h
            exact hc c h
          exact ⟨_, none, none, rfl, hz, hA3.weak (Ex.new (hA2.nh hD))⟩
    · obtain ⟨z, y3, y4, rfl, hz, hA⟩ := hM
      have hT1 := hA.ex _ _ hT
      refine ⟨_, rfl, _, rfl, tk, ts.map V.str, rfl, .inl (sq_of hT1), rfl, flat_strs ts, _, rfl, ite2 (fun hb => ?_) (fun hb => ?_)⟩
      · have hnd : (Str.ofString "xkvjqgzwybhfpmucldnrsoiaet").cps.toList.Nodup := by decide +kernel
        have hlow : ∀ c ∈ (Str.ofString "xkvjqgzwybhfpmucldnrsoiaet").cps.toList, 97 ≤ c ∧ c ≤ 122 := low_of (by decide +kernel)
        have h26 : (Str.ofString "xkvjqgzwybhfpmucldnrsoiaet").length = 26 := by decide +kernel
        generalize (Str.ofString "xkvjqgzwybhfpmucldnrsoiaet") = zz at hnd hlow h26
        have hz26 : zz.cps.size = 26 := h26
        refine ⟨_, rfl, fun D hD => lc_it (walk_str (z := zz)) (fun i H' => At b (upd G D (.lst (((zz.cps.toList.take i).filter fun c => !inV (.str ⟨#[c]⟩) (ts.map V.str)).map fun c => V.str ⟨#[c]⟩))) H') (hA.new hD) (fun _ _ _ _ => True.intro) (fun i v H3 H4 hi hp hy => ?_) (fun H' hp => ?_)⟩
        · obtain ⟨rfl, c, hc, rfl⟩ := hy
          have hDG : G D = none := hA.nh hD
          have hT3 : (upd G D (.lst (((zz.cps.toList.take i).filter fun c => !inV (.str ⟨#[c]⟩) (ts.map V.str)).map fun c => V.str ⟨#[c]⟩))) tk = some (.lst (ts.map V.str)) := (upd_ne (ne_of_none hT hDG)).trans hT
          have hc' : zz.cps.toList[i]? = some c := by rw [Array.getElem?_toList]; exact hc
          refine ⟨rfl, _, rfl, _, rfl, tk, ts.map V.str, rfl, .inl (sq_of (hp.ex _ _ hT3)), rfl, flat_strs ts, _, rfl, ite2 (fun hb => ?_) (fun hb => ?_)⟩
          · have hb : (!inV (.str ⟨#[c]⟩) (ts.map V.str)) = true := hb
            refine ⟨_, rfl, _, hp.ex _ _ upd_same, ?_, ?_⟩
            · rw [List.length_map]
              refine sz_lt (Nat.lt_of_le_of_lt (List.length_filter_le _ _) ?_)
              rw [List.length_take]
              omega
            · have e : ((zz.cps.toList.take (i + 1)).filter fun c => !inV (.str ⟨#[c]⟩) (ts.map V.str)) = ((zz.cps.toList.take i).filter fun c => !inV (.str ⟨#[c]⟩) (ts.map V.str)) ++ [c] := by
                rw [List.take_add_one, hc', List.filter_append]
                show _ ++ List.filter _ [c] = _
                rw [List.filter_cons, if_pos hb]
                rfl
              rw [e, List.map_append]
              exact hp.put
          · have hb : ¬ (!inV (.str ⟨#[c]⟩) (ts.map V.str)) = true := hb
            have e : ((zz.cps.toList.take (i + 1)).filter fun c => !inV (.str ⟨#[c]⟩) (ts.map V.str)) = ((zz.cps.toList.take i).filter fun c => !inV (.str ⟨#[c]⟩) (ts.map V.str)) := by
              rw [List.take_add_one, hc', List.filter_append]
              show _ ++ List.filter _ [c] = _
              rw [List.filter_cons, if_neg hb]
              exact List.append_nil _
            show At b (upd G D (.lst (((zz.cps.toList.take (i + 1)).filter fun c => !inV (.str ⟨#[c]⟩) (ts.map V.str)).map fun c => V.str ⟨#[c]⟩))) H4
            rw [e]
            exact hp
        · rw [List.take_of_length_le (by rw [Array.length_toList]; exact Nat.le_refl _)] at hp
          have hne := free_sign (ts := ts) hnd (by omega)
          have hlow2 : ∀ c ∈ zz.cps.toList.filter (fun c => !inV (.str ⟨#[c]⟩) (ts.map V.str)), 97 ≤ c ∧ c ≤ 122 := fun c hc => hlow c (List.mem_filter.mp hc).1
          revert hp hne hlow2
          generalize (zz.cps.toList.filter fun c => !inV (.str ⟨#[c]⟩) (ts.map V.str)) = fl
          intro hp hne hlow2
          cases fl with
          | nil => exact absurd rfl hne
          | cons c r =>
            refine ⟨D, _, 0, .str ⟨#[c]⟩, rfl, rfl, sq_of (hp.ex _ _ upd_same), at_of (j := 0) rfl rfl, _, rfl, q _ _ ?_ (hp.weak (Ex.new (hA.nh hD)))⟩
            refine ⟨Nat.le_refl 1, (show 1 ≤ 6 by decide), fun x hx => ?_⟩
            have hx : x ∈ [c] := hx
            rw [List.mem_singleton.mp hx]
            exact hlow2 c List.mem_cons_self
      · exact ⟨_, rfl, q z _ hz hA⟩
end
end Eyes

set_option Elab.async false
set_option linter.all false
set_option maxRecDepth 100000
set_option maxHeartbeats 4000000
namespace Eyes
open PySem PySem.Spec PyProof.Rows L2 Evl TL
def spTtls : Sp := fun vs H Q _ => ∃ (b : Addr) (z : Int) (G : Hp), vs = [.ref b, .int z] ∧ At b G H ∧ 0 ≤ z ∧ z ≤ 21 ∧ ∀ (l : Addr) (ts : List Str) (H' : Hp), G l = none → At b (upd G l (.lst (ts.map V.str))) H' → (ts.length : Int) = z → (∀ t ∈ ts, nm t) → Q (.ref l) H'
theorem cutS_to (x : Str) (k : Nat) : cutS x none (some (k : Int)) = ⟨((tl x).take k).toArray⟩ := by
  refine ext_tl ?_
  show (x.cps.toList.drop _).take _ = (tl x).take k
  rw [HT.sIx_none, HT.sIx_nat, List.drop_zero, Nat.sub_zero]
  have hl : x.cps.toList.length = x.length := Array.length_toList
  rcases Nat.le_total k x.length with h | h
  · rw [Nat.min_eq_left h]
  · rw [Nat.min_eq_right h, List.take_of_length_le (by omega)]
    show _ = x.cps.toList.take k
    rw [List.take_of_length_le (by omega)]
theorem cutS_from (x : Str) (k : Nat) : cutS x (some (k : Int)) none = ⟨((tl x).drop k).toArray⟩ := by
  refine ext_tl ?_
  show (x.cps.toList.drop _).take _ = (tl x).drop k
  rw [HT.sIx_none, HT.sIx_nat]
  have hl : x.cps.toList.length = x.length := Array.length_toList
  rw [List.take_of_length_le (by rw [List.length_drop]; omega)]
  rcases Nat.le_total k x.length with h | h
  · rw [Nat.min_eq_left h]
  · rw [Nat.min_eq_right h, List.drop_of_length_le (by omega)]
    show _ = x.cps.toList.drop k
    rw [List.drop_of_length_le (by omega)]
section
variable {P : Program} {w : World} {K : PySem.W.Frag} {mg : Str → Option Value} {base : Heap} {AA : Adr}
theorem ok_law_titles (T : Txt K mg AA) : Pr P w K mg base "_law_titles" s_law_titles p_law_titles 4 spTtls := by
  refine pr_mk T.f_law_titles sc_law_titles (fun vs H Q E h => ?_) (fun f cdv A outer s H vs Q E hr h => ?_)
  · obtain ⟨b, z, G, rfl, _⟩ := h
    rfl
  · obtain ⟨b, z, G, rfl, hA, hz0, hz1, q⟩ := h
    refine ⟨_, (pss_cons (ps_set (i := 2) sc_law_titles.nd rfl (.inl rfl) (pe_lst pa_nil))
      (pss_cons (ps_if (pt_cmpR op_eq (pcall (ok_law_draw T) hr (pa_cons (pv 0) (pa_cons pe_int pa_nil))) pe_int (nomark _))
      (pss_cons (ps_set (i := 4) sc_law_titles.nd rfl (.inl rfl) (pe_join pe_str (pe_lc (own := [("_law_k", 3)]) (g := gName 3) (tt := tYes) rfl sc_law_titles.nd (pi_range1 (by rfl) T.n_range (pa_cons (pcall (ok_law_draw T) hr (pa_cons (pv 0) (pa_cons pe_int pa_nil))) pa_nil)) (blkOk_by (own := [("_law_k", 3)]) (N := n_law_titles) (sc := defScope s_law_titles) (by decide +kernel)) (fun _ _ _ _ _ => (pg_name (i := 3) sc_law_titles.nd rfl (.inl rfl))) (fun _ _ _ _ _ => pts_nil) (fun _ _ _ _ _ => (pcall (ok_law_of T) hr (pa_cons (pv 0) (pa_cons pe_str pa_nil)))))))
      (pss_cons (ps_par (i := 5) (j := 6) rfl sc_law_titles.nd rfl rfl (by decide) rfl rfl (pa_cons (pcall (ok_law_draw T) hr (pa_cons (pv 0) (pa_cons (pe_op op_add (pe_callB call_len_str (by rfl) T.n_len PySem.boot_len (pa_cons (pv 4) pa_nil)) pe_int) pa_nil))) (pa_cons (pcall (ok_law_draw T) hr (pa_cons (pv 0) (pa_cons pe_int pa_nil))) pa_nil)) rfl)
      (pss_cons (ps_for PassesOwn.never rfl (pi_range1 (by rfl) T.n_range (pa_cons (pv 1) pa_nil)) (pg_name (i := 3) sc_law_titles.nd rfl (.inl rfl))
      (pss_one (ps_expr (pe_bm PySem.F.plainAttrs_list PySem.F.slot_list_append PySem.F.type_list_append mt_append (pv 2) (pa_cons (pe_op op_add_str (pe_op op_add_str (pe_slice sl_str (pv 4) po_none (po_some (pv 5))) (pe_ix ix_str pe_str (pe_op op_mod (pe_callTy call_int1 (by rfl) T.n_int PyProof.Rows.boot_int (pa_cons (pe_op op_add (pv 6) (pe_op op_mul pe_int (pv 3))) pa_nil)) pe_int) (fun _ _ => rfl))) (pe_slice sl_str (pv 4) (po_some (pv 5)) po_none)) pa_nil)))))
      (pss_one (ps_ret (pv 2))))))
      pss_nil)
      (pss_cons (ps_for PassesOwn.never rfl (pi_range1 (by rfl) T.n_range (pa_cons (pv 1) pa_nil)) (pg_name (i := 3) sc_law_titles.nd rfl (.inl rfl))
      (pss_one (ps_expr (pe_bm PySem.F.plainAttrs_list PySem.F.slot_list_append PySem.F.type_list_append mt_append (pv 2) (pa_cons (pcall (ok_law_title T) hr (pa_cons (pv 0) (pa_cons (pv 2) pa_nil))) pa_nil)))))
      (pss_one (ps_ret (pv 2)))))), ?_⟩
    refine ⟨by show 0 ≤ sizeLine; decide, fun l hl => ?_⟩
    have hGl := hA.nh hl
    have hA0 : At b (upd G l (.lst (([] : List Str).map V.str))) (upd H l (.lst [])) := hA.new hl
    refine ⟨_, rfl, b, 3, _, rfl, hA0, by decide, by decide, fun tn H1 t0 t1 hA1 => ⟨rfl, _, rfl, ite2 (fun hb => ?_) (fun hb => ?_)⟩⟩
    · have hlowS : ∀ c ∈ (Str.ofString "tfkqzjbxhcwgmvyonpsrdlieua").cps.toList, 97 ≤ c ∧ c ≤ 122 := low_of (by decide +kernel)
      have hlowQ : ∀ c ∈ (Str.ofString "qazwsxedcrfvtgbyhnujmikolp").cps.toList, 97 ≤ c ∧ c ≤ 122 := low_of (by decide +kernel)
      have hlenQ : (Str.ofString "qazwsxedcrfvtgbyhnujmikolp").length = 26 := by decide +kernel
      have hSeq : SeqV K (upd G l (.lst (([] : List Str).map V.str))) (.str (Str.ofString "tfkqzjbxhcwgmvyonpsrdlieua")) ((Str.ofString "tfkqzjbxhcwgmvyonpsrdlieua").cps.toList.map fun c => V.str ⟨#[c]⟩) := .inr (.inr ⟨_, rfl, by decide +kernel, rfl⟩)
      have hlenS : (Str.ofString "tfkqzjbxhcwgmvyonpsrdlieua").length = 26 := by decide +kernel
      generalize (Str.ofString "tfkqzjbxhcwgmvyonpsrdlieua") = zs at hlowS hSeq hlenS
      generalize (Str.ofString "qazwsxedcrfvtgbyhnujmikolp") = zq at hlowQ hlenQ
      have hzs : (zs.cps.toList.map fun c => V.str ⟨#[c]⟩).length = 26 := by
        rw [List.length_map, Array.length_toList]
        exact hlenS
      refine ⟨⟨_, rfl⟩, _, rfl, b, 6, _, rfl, hA1, by decide, by decide, fun sz H2 z0 z1 hA2 => ⟨_, rfl, by omega, by omega, fun D hD => lc_it walk_range (fun i H' => ∃ cs : List Nat, cs.length = i ∧ (∀ c ∈ cs, 97 ≤ c ∧ c ≤ 122) ∧ At b (upd (upd G l (.lst (([] : List Str).map V.str))) D (.lst (cs.map fun c => V.str ⟨#[c]⟩))) H')
          ⟨[], rfl, (fun c hc => by cases hc), hA2.new hD⟩ (fun _ _ _ _ => True.intro) (fun i v H3 H4 hi hp hy => ?_) (fun H' hp => ?_)⟩⟩
      · obtain ⟨rfl, rfl⟩ := hy
        obtain ⟨cs, hl, hc, hA3⟩ := hp
        refine ⟨rfl, ?_⟩
        refine ⟨_, rfl, b, _, _, _, rfl, hA3, hSeq.mono (Ex.new (hA2.nh hD)), by omega, by omega, fun v H5 hv hA5 => ?_⟩
        obtain ⟨c, hcm, rfl⟩ := List.mem_map.mp hv
        refine ⟨_, hA5.ex _ _ upd_same, ?_, cs ++ [c], by simp [hl], ?_, ?_⟩
        · rw [List.length_map]
          exact sz_lt (by omega)
        · intro d hd
          rcases List.mem_append.mp hd with h | h
          · exact hc d h
          · rw [List.mem_singleton.mp h]
            exact hlowS c hcm
        · rw [List.map_append]
          exact hA5.put
      · obtain ⟨cs, hl, hc, hA3⟩ := hp
        have hlen : cs.length ≤ 5 := by omega
        refine ⟨"", D, cs.map fun c => ⟨#[c]⟩, rfl, rfl, .inl (sq_of ((hA3.ex _ _ upd_same).trans (by rw [List.map_map]; rfl))), sum_signs (by omega), ?_⟩
        have hst : tl (Txt.join ("" : Str) (cs.map fun c => ⟨#[c]⟩)) = cs := join_signs cs
        generalize Txt.join ("" : Str) (cs.map fun c => ⟨#[c]⟩) = st at hst
        have hA4 := hA3.weak (Ex.new (hA2.nh hD))
        have hstl : st.length ≤ 5 := by rw [len_tl, hst]; exact hlen
        refine ⟨_, rfl, _, rfl, st, rfl, sz_of (by omega), _, _, rfl, rfl, b, _, _, rfl, hA4, by omega, by omega, fun sp H5 sp0 sp1 hA5 => ?_⟩
        refine ⟨_, rfl, b, 26, _, rfl, hA5, by decide, by decide, fun bg H6 bg0 bg1 hA6 => ⟨_, _, rfl, ?_⟩⟩
        refine ⟨_, rfl, z, rfl, by omega, by omega, ?_⟩
        refine for_it walk_range (fun i σ H' => ∃ (ts : List Str) (y3 : Option V), σ = [some (.ref b), some (.int z), some (.ref l), y3, some (.str st), some (.int sp), some (.int bg)] ∧ ts.length = i ∧ (∀ t ∈ ts, nm t) ∧ At b (upd G l (.lst (ts.map V.str))) H') ⟨[], _, rfl, rfl, (fun t ht => by cases ht), hA6⟩ (fun _ _ _ _ _ => True.intro) (fun i v σ H3 H4 hi hp hy => ?_) (fun σ H' hp => ?_)
        · obtain ⟨rfl, rfl⟩ := hy
          obtain ⟨ts, y3, rfl, hlen2, hnm, hA7⟩ := hp
          refine ⟨_, rfl, .inl ⟨rfl, _, sq_of (hA7.ex _ _ upd_same)⟩, ?_⟩
          have hm0 : 0 ≤ (bg + 5 * (0 + (i : Int))) % 26 := Int.emod_nonneg _ (by decide)
          have hm1 : (bg + 5 * (0 + (i : Int))) % 26 < 26 := Int.emod_lt_of_pos _ (by decide)
          have hsz : zq.cps.toList.length = 26 := by rw [Array.length_toList]; exact hlenQ
          obtain ⟨ix, hix⟩ : ∃ ix, ix = (bg + 5 * (0 + (i : Int))) % 26 := ⟨_, rfl⟩
          rw [← hix] at hm0 hm1
          have hlt : ix.toNat < zq.cps.toList.length := by omega
          have hget := List.getElem?_eq_getElem hlt
          have hcl := hlowQ _ (List.getElem_mem hlt)
          generalize zq.cps.toList[ix.toNat] = c at hget hcl
          have hspn : sp = (sp.toNat : Int) := by omega
          have e1 : tl (cutS st none (some sp)) = cs.take sp.toNat := by rw [hspn, cutS_to, hst]; rfl
          have e2 : tl (cutS st (some sp) none) = cs.drop sp.toNat := by rw [hspn, cutS_from, hst]; rfl
          have l1 : (cutS st none (some sp)).length ≤ 5 := by
            rw [len_tl, e1, List.length_take]
            omega
          have l2 : (cutS st (some sp) none).length ≤ 5 := by
            rw [len_tl, e2, List.length_drop]
            omega
          have lc : (⟨#[c]⟩ : Str).length = 1 := rfl
          have nt : nm ((cutS st none (some sp) ++ ⟨#[c]⟩) ++ cutS st (some sp) none) := by
            have e3 : tl ((cutS st none (some sp) ++ ⟨#[c]⟩) ++ cutS st (some sp) none) = (cs.take sp.toNat ++ [c]) ++ cs.drop sp.toNat := by
              rw [tl_append, tl_append, e1, e2]
            have e4 : ((cs.take sp.toNat ++ [c]) ++ cs.drop sp.toNat).length = cs.length + 1 := by
              rw [List.length_append, List.length_append, List.length_take, List.length_drop, List.length_singleton]
              have := Nat.min_le_right sp.toNat cs.length
              omega
            refine ⟨by rw [len_tl, e3, e4]; omega, by rw [len_tl, e3, e4]; omega, fun x hx => ?_⟩
            rw [e3] at hx
            rcases List.mem_append.mp hx with hx | hx
            · rcases List.mem_append.mp hx with hx | hx
              · exact hc x (List.mem_of_mem_take hx)
              · rw [List.mem_singleton.mp hx]
                exact hcl
            · exact hc x (List.mem_of_mem_drop hx)
          refine ⟨_, rfl, _, rfl, sp, rfl, st, rfl, sz_of (by omega), ?_⟩
          refine ⟨_, rfl, _, rfl, 5, _, rfl, rfl, .inl ⟨by decide, by decide⟩, bg, _, rfl, rfl, .inl ⟨_, rfl, _, 26, rfl, rfl, (show (0 : Int) < 26 by decide), ?_⟩⟩
          refine ⟨zq, _, c, rfl, rfl, sz_of (by have : zq.length = 26 := hlenQ; omega), at_of' (by rw [← hix]; exact hm0) (by rw [← hix]; exact hget), _, _, rfl, rfl, sz_of (by omega), ?_⟩
          refine ⟨_, rfl, _, rfl, sp, rfl, st, rfl, sz_of (by omega), _, _, rfl, rfl, sz_of ?_, ?_⟩
          · rw [len_tl, tl_append, List.length_append, ← len_tl, ← len_tl]
            omega
          · refine ⟨l, _, _, rfl, rfl, hA7.ex _ _ upd_same, sz_lt (by rw [List.length_map]; omega), ts ++ [(cutS st none (some sp) ++ ⟨#[c]⟩) ++ cutS st (some sp) none], _, rfl, by simp [hlen2], ?_, ?_⟩
            · intro x hx
              rcases List.mem_append.mp hx with h | h
              · exact hnm x h
              · rw [List.mem_singleton.mp h]
                exact nt
            · rw [List.map_append]
              exact hA7.put
        · obtain ⟨ts, y3, rfl, hlen2, hnm, hA7⟩ := hp
          exact ⟨_, rfl, q l ts H' hGl hA7 (by omega) hnm⟩
    · refine ⟨_, rfl, z, rfl, by omega, by omega, ?_⟩
      refine for_it walk_range (fun i σ H' => ∃ (ts : List Str) (y3 y4 y5 y6 : Option V), σ = [some (.ref b), some (.int z), some (.ref l), y3, y4, y5, y6] ∧ ts.length = i ∧ (∀ t ∈ ts, nm t) ∧ At b (upd G l (.lst (ts.map V.str))) H') ⟨[], none, none, none, none, rfl, rfl, (fun t ht => by cases ht), hA1⟩ (fun _ _ _ _ _ => True.intro) (fun i v σ H3 H4 hi hp hy => ?_) (fun σ H' hp => ?_)
      · obtain ⟨rfl, rfl⟩ := hy
        obtain ⟨ts, y3, y4, y5, y6, rfl, hlen, hnm, hA2⟩ := hp
        refine ⟨_, rfl, .inl ⟨rfl, _, sq_of (hA2.ex _ _ upd_same)⟩, _, rfl, _, rfl, b, l, _, ts, rfl, hA2, upd_same, by omega, fun t H5 ht hA3 => ?_⟩
        refine ⟨l, _, _, rfl, rfl, hA3.ex _ _ upd_same, sz_lt (by rw [List.length_map]; omega), ts ++ [t], _, _, _, _, rfl, by simp [hlen], ?_, ?_⟩
        · intro x hx
          rcases List.mem_append.mp hx with h | h
          · exact hnm x h
          · rw [List.mem_singleton.mp h]
            exact ht
        · rw [List.map_append]
          exact hA3.put
      · obtain ⟨ts, y3, y4, y5, y6, rfl, hlen, hnm, hA2⟩ := hp
        exact ⟨_, rfl, q l ts H' hGl hA2 (by omega) hnm⟩
end
end Eyes

set_option Elab.async false
set_option linter.all false
set_option maxRecDepth 100000
set_option maxHeartbeats 4000000
namespace Eyes
open PySem PySem.Spec PyProof.Rows L2 Evl TL
theorem At.all {b : Addr} {G H0 H : Hp} (h : At b G H0) (e : Ex H0 H) : ∃ G', At b G' H ∧ Ex G G' ∧ ∀ a, (∀ xs, H0 a ≠ some (.lst xs)) → G' a = H a := by
  obtain ⟨c, ns, i, r, m, n, B⟩ := h
  refine ⟨fun a => if a = b ∨ a = c then none else H a, ⟨c, ns, i, r, m, n, if_pos (.inl rfl), if_pos (.inr rfl), fun a o ha => ?_, e _ _ B.at_, e _ _ B.cells, B.ne, B.i0, B.r0, B.m0, B.m1⟩, fun a o ha => ?_, fun a ha => ?_⟩
  · by_cases hab : a = b ∨ a = c
    · rw [show (if a = b ∨ a = c then none else H a) = none from if_pos hab] at ha
      cases ha
    · rw [show (if a = b ∨ a = c then none else H a) = H a from if_neg hab] at ha
      exact ha
  · have hab : ¬ (a = b ∨ a = c) := by
      rintro (rfl | rfl)
      · rw [B.nb] at ha
        cases ha
      · rw [B.nc] at ha
        cases ha
    exact (show (if a = b ∨ a = c then none else H a) = H a from if_neg hab).trans (e _ _ (B.ex _ _ ha))
  · refine if_neg ?_
    rintro (rfl | rfl)
    · exact ha _ B.at_
    · exact ha _ B.cells
mutual
theorem Rep.tups {H H' : Hp} (e : ∀ a xs, H a = some (.tup xs) → H' a = some (.tup xs)) : ∀ {c : Ci} {v : V}, Rep H v c.data → Rep H' v c.data
  | .eye n, v, h => by
    have h : Rep H v (.tuple [.str "eye", .str n]) := h
    cases h with
    | tup h r =>
      cases r with
      | cons h1 r =>
        cases r with
        | cons h2 r =>
          cases r
          cases h1
          cases h2
          exact .tup (e _ _ h) (.cons (.str _) (.cons (.str _) .nil))
  | .node k ps, v, h => by
    have h : Rep H v (.tuple [.str (kindS k), .tuple (datas ps)]) := h
    cases h with
    | tup h r =>
      cases r with
      | cons h1 r =>
        cases r with
        | cons h2 r =>
          cases r
          cases h1
          cases h2 with
          | tup h3 r3 => exact .tup (e _ _ h) (.cons (.str _) (.cons (.tup (e _ _ h3) (Reps.tups e r3)) .nil))
theorem Reps.tups {H H' : Hp} (e : ∀ a xs, H a = some (.tup xs) → H' a = some (.tup xs)) : ∀ {cs : List Ci} {vs : List V}, Reps H vs (datas cs) → Reps H' vs (datas cs)
  | [], vs, h => by
    have h : Reps H vs [] := h
    cases h
    exact .nil
  | c :: r, vs, h => by
    have h : Reps H vs (c.data :: datas r) := h
    cases h with
    | cons h1 h2 => exact .cons (Rep.tups e h1) (Reps.tups e h2)
end
theorem At.node {b : Addr} {G H0 H : Hp} {v : V} {c : Ci} (h : At b G H0) (e : Ex H0 H) (hv : Rep H v c.data) : ∃ G', At b G' H ∧ Ex G G' ∧ Rep G' v c.data := by
  obtain ⟨G', h1, h2, h3⟩ := h.all e
  refine ⟨G', h1, h2, hv.tups fun a xs ha => ?_⟩
  rw [h3 a fun ys hy => ?_]
  · exact ha
  · rw [e _ _ hy] at ha
    cases ha
theorem upd_self {G : Hp} {p : Addr} {o : HO} (h : G p = some o) : upd G p o = G := by
  funext a
  by_cases e : a = p
  · subst e
    rw [upd_same, h]
  · exact upd_ne e
theorem At.put' {b : Addr} {G H : Hp} {p : Addr} {o o' : HO} (h : At b G H) (hp : G p = some o) : At b (upd G p o') (upd H p o') := by
  have h2 : At b (upd G p o) H := by rw [upd_self hp]; exact h
  exact h2.put
def spNode (n : Nat) : Sp := fun vs H Q _ => ∃ (b tl : Addr) (d : Nat) (G : Hp) (ts : List Str), vs = [.ref b, .ref tl, .int d] ∧ At b G H ∧ G tl = some (.lst (ts.map V.str)) ∧ ts ≠ [] ∧ ts.length ≤ 1000 ∧ (∀ t ∈ ts, nm t) ∧ d < n ∧ d ≤ 8 ∧
  ∀ (v : V) (c : Ci) (G' H' : Hp), Ex G G' → At b G' H' → Rep G' v c.data → c.norm → c.depth ≤ d → c.size ≤ 3 ^ d → Q v H'
section
variable {P : Program} {w : World} {K : PySem.W.Frag} {mg : Str → Option Value} {base : Heap} {AA : Adr}
end
end Eyes

set_option Elab.async false
set_option linter.all false
set_option maxRecDepth 100000
set_option maxHeartbeats 4000000
namespace Eyes
open PySem PySem.Spec PyProof.Rows L2 Evl TL
def spLadder : Sp := fun vs H Q _ => ∃ (b tl : Addr) (d : Nat) (G : Hp) (ts : List Str), vs = [.ref b, .ref tl, .int d] ∧ At b G H ∧ G tl = some (.lst (ts.map V.str)) ∧ ts ≠ [] ∧ ts.length ≤ 1000 ∧ (∀ t ∈ ts, nm t) ∧ d ≤ 24 ∧
  ∀ (v : V) (c : Ci) (G' H' : Hp), Ex G G' → At b G' H' → Rep G' v c.data → c.norm → c.depth ≤ d → c.size ≤ d + 1 → Q v H'
section
variable {P : Program} {w : World} {K : PySem.W.Frag} {mg : Str → Option Value} {base : Heap} {AA : Adr}
end
end Eyes

set_option Elab.async false
set_option linter.all false
set_option maxRecDepth 100000
/-! Partings: rows of numbers, for each case the least case alike to it. -/
namespace Eyes
open PySem PySem.Spec PyProof.Rows L2
def alone (n : Nat) : List Nat := (List.range n).map (· + 1)
def itm (p : List Nat) (x : Nat) : Nat := p.getD (x - 1) 0
def mrg1 (p : List Nat) (x y : Nat) : List Nat := p.map fun z => if z = max (itm p x) (itm p y) then min (itm p x) (itm p y) else z
def mrgs (p : List Nat) (l : List (Nat × Nat)) : List Nat := l.foldl (fun p xy => mrg1 p xy.1 xy.2) p
structure IsP (n : Nat) (p : List Nat) : Prop where
  len : p.length = n
  lo : ∀ x, 1 ≤ x → x ≤ n → 1 ≤ itm p x ∧ itm p x ≤ x
  rt : ∀ x, 1 ≤ x → x ≤ n → itm p (itm p x) = itm p x
theorem itm_get {p : List Nat} {x : Nat} (h1 : 1 ≤ x) (h2 : x ≤ p.length) : p[x - 1]? = some (itm p x) := by
  unfold itm
  rw [List.getD_eq_getElem?_getD, List.getElem?_eq_getElem (by omega)]
  rfl
theorem itm_alone {n x : Nat} (h1 : 1 ≤ x) (h2 : x ≤ n) : itm (alone n) x = x := by
  unfold itm alone
  rw [List.getD_eq_getElem?_getD, List.getElem?_map, List.getElem?_range (by omega)]
  show x - 1 + 1 = x
  omega
theorem alone_len {n : Nat} : (alone n).length = n := by
  unfold alone
  rw [List.length_map, List.length_range]
theorem isP_alone (n : Nat) : IsP n (alone n) := by
  refine ⟨alone_len, fun x h1 h2 => ?_, fun x h1 h2 => ?_⟩
  · rw [itm_alone h1 h2]
    omega
  · rw [itm_alone h1 h2, itm_alone h1 h2]
theorem itm_map {p : List Nat} {f : Nat → Nat} {x : Nat} (h1 : 1 ≤ x) (h2 : x ≤ p.length) : itm (p.map f) x = f (itm p x) := by
  have h := itm_get h1 h2
  unfold itm at h ⊢
  rw [List.getD_eq_getElem?_getD, List.getElem?_map, h]
  rfl
theorem itm_mrg1 {n : Nat} {p : List Nat} (h : IsP n p) (x y : Nat) {z : Nat} (h1 : 1 ≤ z) (h2 : z ≤ n) : itm (mrg1 p x y) z = if itm p z = max (itm p x) (itm p y) then min (itm p x) (itm p y) else itm p z :=
  itm_map h1 (by rw [h.len]; exact h2)
theorem isP_mrg1 {n : Nat} {p : List Nat} (h : IsP n p) {x y : Nat} (hx : 1 ≤ x ∧ x ≤ n) (hy : 1 ≤ y ∧ y ≤ n) : IsP n (mrg1 p x y) := by
  have ax := h.lo x hx.1 hx.2
  have ay := h.lo y hy.1 hy.2
  have rx := h.rt x hx.1 hx.2
  have ry := h.rt y hy.1 hy.2
  have key : ∀ z, 1 ≤ z → z ≤ n → itm (mrg1 p x y) z = if itm p z = max (itm p x) (itm p y) then min (itm p x) (itm p y) else itm p z := fun z h1 h2 => itm_mrg1 h x y h1 h2
  refine ⟨by unfold mrg1; rw [List.length_map]; exact h.len, fun z h1 h2 => ?_, fun z h1 h2 => ?_⟩
  · have az := h.lo z h1 h2
    rw [key z h1 h2]
    split
    · omega
    · exact az
  · have az := h.lo z h1 h2
    have rz := h.rt z h1 h2
    rw [key z h1 h2]
    by_cases g : itm p z = max (itm p x) (itm p y)
    · rw [if_pos g]
      have hm : itm p (min (itm p x) (itm p y)) = min (itm p x) (itm p y) := by
        rcases Nat.le_total (itm p x) (itm p y) with q | q
        · rw [Nat.min_eq_left q]
          exact rx
        · rw [Nat.min_eq_right q]
          exact ry
      rw [key _ (by omega) (by omega), hm]
      split
      · rfl
      · rfl
    · rw [if_neg g, key _ az.1 (by omega), rz, if_neg g]
theorem isP_mrgs {n : Nat} : ∀ {l : List (Nat × Nat)} {p : List Nat}, IsP n p → (∀ xy ∈ l, (1 ≤ xy.1 ∧ xy.1 ≤ n) ∧ 1 ≤ xy.2 ∧ xy.2 ≤ n) → IsP n (mrgs p l)
  | [], p, h, _ => h
  | xy :: r, p, h, hl => isP_mrgs (l := r) (isP_mrg1 h (hl xy List.mem_cons_self).1 (hl xy List.mem_cons_self).2) fun z hz => hl z (List.mem_cons_of_mem _ hz)
theorem mrgs_snoc (p : List Nat) (l : List (Nat × Nat)) (xy : Nat × Nat) : mrgs p (l ++ [xy]) = mrg1 (mrgs p l) xy.1 xy.2 := by
  unfold mrgs
  rw [List.foldl_append]
  rfl
/-! ### what is alike -/
def ali (p : List Nat) (x y : Nat) : Prop := itm p x = itm p y
theorem isP_ext {n : Nat} {p q : List Nat} (hp : IsP n p) (hq : IsP n q) (h : ∀ x y, 1 ≤ x → x ≤ n → 1 ≤ y → y ≤ n → (ali p x y ↔ ali q x y)) : p = q := by
  have low : ∀ {p q : List Nat}, IsP n p → IsP n q → (∀ x y, 1 ≤ x → x ≤ n → 1 ≤ y → y ≤ n → ali p x y → ali q x y) → ∀ x, 1 ≤ x → x ≤ n → itm q x ≤ itm p x := fun {p q} hp hq h x h1 h2 => by
    have a := hp.lo x h1 h2
    have e := h (itm p x) x a.1 (by omega) h1 h2 (hp.rt x h1 h2)
    have b := hq.lo (itm p x) a.1 (by omega)
    have e : itm q (itm p x) = itm q x := e
    omega
  refine List.ext_getElem? fun i => ?_
  by_cases hi : i < n
  · have h1 := itm_get (p := p) (x := i + 1) (by omega) (by rw [hp.len]; omega)
    have h2 := itm_get (p := q) (x := i + 1) (by omega) (by rw [hq.len]; omega)
    rw [Nat.add_sub_cancel] at h1 h2
    rw [h1, h2]
    have a := low hp hq (fun x y a b c d => (h x y a b c d).1) (i + 1) (by omega) (by omega)
    have b := low hq hp (fun x y a b c d => (h x y a b c d).2) (i + 1) (by omega) (by omega)
    congr 1
    omega
  · rw [List.getElem?_eq_none (by rw [hp.len]; omega), List.getElem?_eq_none (by rw [hq.len]; omega)]
theorem mrg1_keeps {n : Nat} {p : List Nat} (h : IsP n p) {x y a b : Nat} (ha : 1 ≤ a ∧ a ≤ n) (hb : 1 ≤ b ∧ b ≤ n) (e : ali p a b) : ali (mrg1 p x y) a b := by
  unfold ali at e ⊢
  rw [itm_mrg1 h x y ha.1 ha.2, itm_mrg1 h x y hb.1 hb.2, e]
theorem mrg1_joins {n : Nat} {p : List Nat} (h : IsP n p) {x y : Nat} (hx : 1 ≤ x ∧ x ≤ n) (hy : 1 ≤ y ∧ y ≤ n) : ali (mrg1 p x y) x y := by
  unfold ali
  rw [itm_mrg1 h x y hx.1 hx.2, itm_mrg1 h x y hy.1 hy.2]
  split <;> split <;> omega
theorem mrg1_least {n : Nat} {p : List Nat} (h : IsP n p) {x y a b : Nat} (hx : 1 ≤ x ∧ x ≤ n) (hy : 1 ≤ y ∧ y ≤ n) (ha : 1 ≤ a ∧ a ≤ n) (hb : 1 ≤ b ∧ b ≤ n) {f : Nat → Nat} (hf : ∀ u v, 1 ≤ u → u ≤ n → 1 ≤ v → v ≤ n → ali p u v → f u = f v) (hxy : f x = f y) (e : ali (mrg1 p x y) a b) : f a = f b := by
  unfold ali at e
  have up : ∀ u, 1 ≤ u ∧ u ≤ n → f (itm p u) = f u := fun u hu => hf _ _ (h.lo u hu.1 hu.2).1 (by have := h.lo u hu.1 hu.2; omega) hu.1 hu.2 (h.rt u hu.1 hu.2)
  have fx := up x hx
  have fy := up y hy
  have fa := up a ha
  have fb := up b hb
  have two : f (max (itm p x) (itm p y)) = f (min (itm p x) (itm p y)) := by
    rcases Nat.le_total (itm p x) (itm p y) with q | q
    · rw [Nat.max_eq_right q, Nat.min_eq_left q, fx, fy, hxy]
    · rw [Nat.max_eq_left q, Nat.min_eq_right q, fx, fy, hxy]
  rw [itm_mrg1 h x y ha.1 ha.2, itm_mrg1 h x y hb.1 hb.2] at e
  rw [← fa, ← fb]
  split at e <;> split at e
  · rename_i g1 g2
    rw [g1, g2]
  · rename_i g1 g2
    rw [g1, two, e]
  · rename_i g1 g2
    rw [g2, two, ← e]
  · rw [e]
theorem mrgs_keeps {n : Nat} : ∀ {l : List (Nat × Nat)} {p : List Nat}, IsP n p → (∀ xy ∈ l, (1 ≤ xy.1 ∧ xy.1 ≤ n) ∧ 1 ≤ xy.2 ∧ xy.2 ≤ n) → ∀ {a b : Nat}, (1 ≤ a ∧ a ≤ n) → (1 ≤ b ∧ b ≤ n) → ali p a b → ali (mrgs p l) a b
  | [], p, h, _, a, b, _, _, e => e
  | xy :: r, p, h, hl, a, b, ha, hb, e => mrgs_keeps (l := r) (isP_mrg1 h (hl xy List.mem_cons_self).1 (hl xy List.mem_cons_self).2) (fun z hz => hl z (List.mem_cons_of_mem _ hz)) ha hb (mrg1_keeps h ha hb e)
theorem mrgs_joins {n : Nat} : ∀ {l : List (Nat × Nat)} {p : List Nat}, IsP n p → (∀ xy ∈ l, (1 ≤ xy.1 ∧ xy.1 ≤ n) ∧ 1 ≤ xy.2 ∧ xy.2 ≤ n) → ∀ {xy : Nat × Nat}, xy ∈ l → ali (mrgs p l) xy.1 xy.2
  | z :: r, p, h, hl, xy, hm => by
    have hz := hl z List.mem_cons_self
    have hr : ∀ w ∈ r, (1 ≤ w.1 ∧ w.1 ≤ n) ∧ 1 ≤ w.2 ∧ w.2 ≤ n := fun w hw => hl w (List.mem_cons_of_mem _ hw)
    rcases List.mem_cons.mp hm with rfl | hm
    · exact mrgs_keeps (l := r) (isP_mrg1 h hz.1 hz.2) hr hz.1 hz.2 (mrg1_joins h hz.1 hz.2)
    · exact mrgs_joins (l := r) (isP_mrg1 h hz.1 hz.2) hr hm
theorem mrgs_least {n : Nat} {f : Nat → Nat} : ∀ {l : List (Nat × Nat)} {p : List Nat}, IsP n p → (∀ xy ∈ l, (1 ≤ xy.1 ∧ xy.1 ≤ n) ∧ 1 ≤ xy.2 ∧ xy.2 ≤ n) → (∀ u v, 1 ≤ u → u ≤ n → 1 ≤ v → v ≤ n → ali p u v → f u = f v) → (∀ xy ∈ l, f xy.1 = f xy.2) → ∀ {a b : Nat}, (1 ≤ a ∧ a ≤ n) → (1 ≤ b ∧ b ≤ n) → ali (mrgs p l) a b → f a = f b
  | [], p, h, _, hf, _, a, b, ha, hb, e => hf a b ha.1 ha.2 hb.1 hb.2 e
  | z :: r, p, h, hl, hf, hg, a, b, ha, hb, e => by
    have hz := hl z List.mem_cons_self
    refine mrgs_least (l := r) (isP_mrg1 h hz.1 hz.2) (fun w hw => hl w (List.mem_cons_of_mem _ hw)) (fun u v h1 h2 h3 h4 e2 => ?_) (fun w hw => hg w (List.mem_cons_of_mem _ hw)) ha hb e
    exact mrg1_least h hz.1 hz.2 ⟨h1, h2⟩ ⟨h3, h4⟩ hf (hg z List.mem_cons_self) e2
theorem mrgs_same {n : Nat} {l k : List (Nat × Nat)} {p q : List Nat} (hp : IsP n p) (hq : IsP n q) (hl : ∀ xy ∈ l, (1 ≤ xy.1 ∧ xy.1 ≤ n) ∧ 1 ≤ xy.2 ∧ xy.2 ≤ n) (hk : ∀ xy ∈ k, (1 ≤ xy.1 ∧ xy.1 ≤ n) ∧ 1 ≤ xy.2 ∧ xy.2 ≤ n)
    (a1 : ∀ u v, 1 ≤ u → u ≤ n → 1 ≤ v → v ≤ n → ali p u v → ali (mrgs q k) u v) (a2 : ∀ xy ∈ l, ali (mrgs q k) xy.1 xy.2) (b1 : ∀ u v, 1 ≤ u → u ≤ n → 1 ≤ v → v ≤ n → ali q u v → ali (mrgs p l) u v) (b2 : ∀ xy ∈ k, ali (mrgs p l) xy.1 xy.2) : mrgs p l = mrgs q k :=
  isP_ext (isP_mrgs hp hl) (isP_mrgs hq hk) fun x y h1 h2 h3 h4 =>
    ⟨fun e => mrgs_least (f := itm (mrgs q k)) hp hl a1 a2 ⟨h1, h2⟩ ⟨h3, h4⟩ e, fun e => mrgs_least (f := itm (mrgs p l)) hq hk b1 b2 ⟨h1, h2⟩ ⟨h3, h4⟩ e⟩
/-! ### roads to the least cases -/
structure Lead (n : Nat) (p L : List Nat) : Prop where
  len : L.length = n + 1
  le : ∀ i, i ≤ n → L.getD i 0 ≤ i
  to : ∀ i, 1 ≤ i → i ≤ n → 1 ≤ L.getD i 0 ∧ itm p (L.getD i 0) = itm p i
  end_ : ∀ i, 1 ≤ i → i ≤ n → L.getD i 0 = i → itm p i = i
theorem getD_set {L : List Nat} {e v i : Nat} (h : e < L.length) : (L.set e v).getD i 0 = if i = e then v else L.getD i 0 := by
  rw [List.getD_eq_getElem?_getD, List.getElem?_set, List.getD_eq_getElem?_getD]
  by_cases g : i = e
  · subst g
    rw [if_pos rfl, if_pos rfl, if_pos h]
    rfl
  · rw [if_neg (fun z => g z.symm), if_neg g]
theorem lead_new (n : Nat) : Lead n (alone n) (List.range (n + 1)) := by
  have g : ∀ i, i ≤ n → (List.range (n + 1)).getD i 0 = i := fun i hi => by
    rw [List.getD_eq_getElem?_getD, List.getElem?_range (by omega)]
    rfl
  refine ⟨List.length_range, fun i hi => ?_, fun i h1 h2 => ?_, fun i h1 h2 _ => itm_alone h1 h2⟩
  · rw [g i hi]
    exact Nat.le_refl _
  · rw [g i h2]
    exact ⟨h1, rfl⟩
theorem Lead.half {n : Nat} {p L : List Nat} (h : Lead n p L) {e : Nat} (h1 : 1 ≤ e) (h2 : e ≤ n) : Lead n p (L.set e (L.getD (L.getD e 0) 0)) := by
  have a := h.to e h1 h2
  have b := h.le e h2
  have c := h.to (L.getD e 0) a.1 (by omega)
  have d := h.le (L.getD e 0) (by omega)
  have hl : e < L.length := by rw [h.len]; omega
  refine ⟨by rw [List.length_set]; exact h.len, fun i hi => ?_, fun i g1 g2 => ?_, fun i g1 g2 => ?_⟩
  · rw [getD_set hl]
    split
    · omega
    · exact h.le i hi
  · rw [getD_set hl]
    split
    · rename_i g
      subst g
      exact ⟨c.1, c.2.trans a.2⟩
    · exact h.to i g1 g2
  · rw [getD_set hl]
    split
    · rename_i g
      subst g
      intro z
      exact h.end_ i g1 g2 (by omega)
    · exact h.end_ i g1 g2
theorem Lead.join {n : Nat} {p L : List Nat} (h : Lead n p L) (hp : IsP n p) {x y r s : Nat} (hr : 1 ≤ r ∧ r ≤ n) (hs : 1 ≤ s ∧ s ≤ n) (er : itm p x = r) (es : itm p y = s) (rr : itm p r = r) (ss : itm p s = s) : Lead n (mrg1 p x y) (L.set (max r s) (min r s)) := by
  have hl : max r s < L.length := by rw [h.len]; omega
  have key : ∀ z, 1 ≤ z → z ≤ n → itm (mrg1 p x y) z = if itm p z = max r s then min r s else itm p z := fun z h1 h2 => by
    rw [itm_mrg1 hp x y h1 h2, er, es]
  have em : itm p (max r s) = max r s := by
    rcases Nat.le_total r s with q | q
    · rw [Nat.max_eq_right q]; exact ss
    · rw [Nat.max_eq_left q]; exact rr
  have en : itm p (min r s) = min r s := by
    rcases Nat.le_total r s with q | q
    · rw [Nat.min_eq_left q]; exact rr
    · rw [Nat.min_eq_right q]; exact ss
  refine ⟨by rw [List.length_set]; exact h.len, fun i hi => ?_, fun i g1 g2 => ?_, fun i g1 g2 => ?_⟩
  · rw [getD_set hl]
    split
    · omega
    · exact h.le i hi
  · rw [getD_set hl]
    split
    · rename_i g
      subst g
      refine ⟨by omega, ?_⟩
      rw [key _ (by omega) (by omega), key _ g1 g2, em, en, if_pos rfl]
      split <;> rfl
    · have a := h.to i g1 g2
      have b := h.le i g2
      refine ⟨a.1, ?_⟩
      rw [key _ a.1 (by omega), key _ g1 g2, a.2]
  · rw [getD_set hl]
    split
    · rename_i g
      subst g
      intro z
      rw [key _ g1 g2, em, if_pos rfl]
      exact z
    · intro z
      have e := h.end_ i g1 g2 z
      rename_i g
      rw [key _ g1 g2, e, if_neg g]
end Eyes

set_option Elab.async false
set_option linter.all false
set_option maxRecDepth 100000
set_option maxHeartbeats 4000000
namespace Eyes
open PySem PySem.Spec PyProof.Rows L2 Evl TL
/-! ### partings: rows of numbers -/
def nvs (p : List Nat) : List V := p.map fun x : Nat => V.int (x : Int)
theorem nvs_len {p : List Nat} : (nvs p).length = p.length := List.length_map ..
theorem nvs_get {p : List Nat} {i x : Nat} (h : p[i]? = some x) : (nvs p)[i]? = some (.int x) := by
  unfold nvs
  rw [List.getElem?_map, h]
  rfl
theorem nvs_set {p : List Nat} {i x : Nat} : (nvs p).set i (.int x) = nvs (p.set i x) := by
  unfold nvs
  rw [List.map_set]
theorem rgV_alone (n : Nat) : rgV 1 ((n : Int) + 1) = nvs (alone n) := by
  unfold rgV nvs alone
  rw [show ((n : Int) + 1 - 1).toNat = n by omega, List.map_map]
  refine List.map_congr_left fun i _ => ?_
  show V.int (1 + (i : Int)) = V.int ((i + 1 : Nat) : Int)
  rw [Int.natCast_add, Int.add_comm]
  rfl
theorem rgV_range (n : Nat) : rgV 0 ((n : Int) + 1) = nvs (List.range (n + 1)) := by
  unfold rgV nvs
  rw [show ((n : Int) + 1 - 0).toNat = n + 1 by omega]
  refine List.map_congr_left fun i _ => ?_
  rw [Int.zero_add]
theorem lead_get {n : Nat} {p L : List Nat} (h : Lead n p L) {e : Nat} (he : e ≤ n) : atI (nvs L) (e : Int) = some (.int (L.getD e 0 : Nat)) := by
  have hl : e < L.length := by rw [h.len]; omega
  refine atI_nat (nvs_get ?_)
  rw [List.getD_eq_getElem?_getD, List.getElem?_eq_getElem hl]
  rfl
def end5 : L2.St → Hp → Nat := fun σ _ => match σ with
  | [_, _, _, _, _, some (.int e), _] => e.toNat
  | _ => 0
theorem two_min {r s : Nat} {m : Int} (h1 : m ∈ [(r : Int), (s : Int)]) (h2 : ∀ y, y ∈ [(r : Int), (s : Int)] → m ≤ y) : m = ((min r s : Nat) : Int) := by
  have a := h2 r (by simp)
  have b := h2 s (by simp)
  rcases List.mem_cons.mp h1 with rfl | h1
  · omega
  · rcases List.mem_cons.mp h1 with rfl | h1
    · omega
    · cases h1
theorem two_max {r s : Nat} {m : Int} (h1 : m ∈ [(r : Int), (s : Int)]) (h2 : ∀ y, y ∈ [(r : Int), (s : Int)] → y ≤ m) : m = ((max r s : Nat) : Int) := by
  have a := h2 r (by simp)
  have b := h2 s (by simp)
  rcases List.mem_cons.mp h1 with rfl | h1
  · omega
  · rcases List.mem_cons.mp h1 with rfl | h1
    · omega
    · cases h1
def spApart : Sp := fun vs H Q _ => ∃ n : Nat, vs = [.int n] ∧ n ≤ 4096 ∧ ∀ p, H p = none → Q (.ref p) (upd H p (.tup (nvs (alone n))))
def inN (n : Nat) (l : List (Nat × Nat)) : Prop := ∀ xy ∈ l, (1 ≤ xy.1 ∧ xy.1 ≤ n) ∧ 1 ≤ xy.2 ∧ xy.2 ≤ n
def Prs (K : PySem.W.Frag) (H : Hp) (vs : List V) (l : List (Nat × Nat)) : Prop := vs.length = l.length ∧ ∀ (i : Nat) v, vs[i]? = some v → ∃ q xy, v = .ref q ∧ l[i]? = some xy ∧ SqT K H q [.int xy.1, .int xy.2]
theorem Prs.mono {K : PySem.W.Frag} {H H' : Hp} {vs : List V} {l : List (Nat × Nat)} (h : Prs K H vs l) (e : Ex H H') : Prs K H' vs l :=
  ⟨h.1, fun i v hv => by
    obtain ⟨q, xy, a, b, c⟩ := h.2 i v hv
    exact ⟨q, xy, a, b, ex_t e c⟩⟩
def spLinked (K : PySem.W.Frag) : Sp := fun vs H Q _ => ∃ (n : Nat) (a : Addr) (ws : List V) (l : List (Nat × Nat)), vs = [.int n, .ref a] ∧ n ≤ 4096 ∧ SqLT K H a ws ∧ Prs K H ws l ∧ inN n l ∧ ∀ p H', Ex H H' → H p = none → H' p = some (.tup (nvs (mrgs (alone n) l))) → Q (.ref p) H'
section
variable {P : Program} {w : World} {K : PySem.W.Frag} {mg : Str → Option Value} {base : Heap} {AA : Adr}
theorem ok_apart (T : Txt K mg AA) : Pr P w K mg base "apart" s_apart p_apart 1 spApart := by
  refine pr_mk T.f_apart sc_apart (fun vs H Q E h => ?_) (fun f cdv A outer s H vs Q E hr h => ?_)
  · obtain ⟨n, rfl, _⟩ := h
    rfl
  · obtain ⟨n, rfl, hn, q⟩ := h
    refine ⟨_, (pss_one (ps_ret (pe_tupRg rfl (by rfl) T.n_tuple (prg_2 (by rfl) T.n_range pe_int (pe_op op_add (pv 0) pe_int))))), ?_⟩
    have g := q
    simp only [← rgV_alone] at g
    exact ⟨_, rfl, n, 1, rfl, rfl, 1, _, rfl, rfl, RgOk.of_le (by omega) (by omega) (by omega) (by omega), g⟩
theorem ok_linked (T : Txt K mg AA) : Pr P w K mg base "linked" s_linked p_linked 1 (spLinked K) := by
  refine pr_mk T.f_linked sc_linked (fun vs H Q E h => ?_) (fun f cdv A outer s H vs Q E hr h => ?_)
  · obtain ⟨n, a, ws, l, rfl, _⟩ := h
    rfl
  · obtain ⟨n, a, ws, l, rfl, hn, ha, hps, hin, q⟩ := h
    refine ⟨_, (pss_cons (ps_set (i := 2) sc_linked.nd rfl (.inl rfl) (pe_listRg rfl (by rfl) T.n_list (prg_1 (by rfl) T.n_range (pe_op op_add (pv 0) pe_int))))
      (pss_cons (ps_for PassesOwn.never rfl (pi_or (pi_list (pv 1)) (pi_tup (pv 1))) (pg_name (i := 3) sc_linked.nd rfl (.inl rfl))
      (pss_cons (ps_set (i := 4) sc_linked.nd rfl (.inl rfl) (pe_lst pa_nil))
      (pss_cons (ps_for PassesOwn.never rfl (pi_tup (pv 3)) (pg_name (i := 5) sc_linked.nd rfl (.inl rfl))
      (pss_cons (ps_while PassesOwn.never (pt_cmpR op_ne (pe_ix (ix_listK (K := K) rfl) (pv 2) (pv 5) (fun _ _ => rfl)) (pv 5) (nomark _))
      (pss_cons (ps_asg (pe_ix (ix_listK (K := K) rfl) (pv 2) (pe_ix (ix_listK (K := K) rfl) (pv 2) (pv 5) (fun _ _ => rfl)) (fun _ _ => rfl)) (pg_sub (pv 2) (pv 5) set_list))
      (pss_one (ps_set (i := 5) sc_linked.nd rfl (.inl rfl) (pe_ix (ix_listK (K := K) rfl) (pv 2) (pv 5) (fun _ _ => rfl))))))
      (pss_one (ps_expr (pe_bm PySem.F.plainAttrs_list PySem.F.slot_list_append PySem.F.type_list_append mt_append (pv 4) (pa_cons (pv 5) pa_nil))))))
      (pss_one (ps_asg (pe_callB (cr_min rfl) (by rfl) T.n_min PyProof.Rows.boot_min (pa_cons (pv 4) pa_nil)) (pg_sub (pv 2) (pe_callB (cr_max rfl) (by rfl) T.n_max PyProof.Rows.boot_max (pa_cons (pv 4) pa_nil)) set_list))))))
      (pss_cons (ps_for PassesOwn.never rfl (pi_range2 (by rfl) T.n_range (pa_cons pe_int (pa_cons (pe_op op_add (pv 0) pe_int) pa_nil))) (pg_name (i := 6) sc_linked.nd rfl (.inl rfl))
      (pss_one (ps_asg (pe_ix (ix_listK (K := K) rfl) (pv 2) (pe_ix (ix_listK (K := K) rfl) (pv 2) (pv 6) (fun _ _ => rfl)) (fun _ _ => rfl)) (pg_sub (pv 2) (pv 6) set_list))))
      (pss_one (ps_ret (pe_callTy call_tuple_of (by rfl) T.n_tuple PyProof.Rows.boot_tuple (pa_cons (pe_slice sl_list (pv 2) (po_some pe_int) po_none) pa_nil))))))), ?_⟩
    -- lead = list(range(many + 1))
    refine ⟨_, rfl, n, 1, rfl, rfl, _, rfl, RgOk.of_le (by omega) (by omega) (by omega) (by omega), fun p np => ?_⟩
    rw [rgV_range]
    have e1 : Ex H (upd H p (.lst (nvs (List.range (n + 1))))) := Ex.new np
    generalize hH1 : upd H p _ = H1 at e1
    have hp1 : H1 p = some (.lst (nvs (List.range (n + 1)))) := by rw [← hH1]; exact upd_same
    -- for pair in pairs
    refine for_lt (j := 1) rfl ha e1 (fun i σ H' => ∃ (y3 y4 y5 y6 : Option V) (L : List Nat), σ = [some (.int n), some (.ref a), some (.ref p), y3, y4, y5, y6] ∧ Ex H H' ∧ H' p = some (.lst (nvs L)) ∧ Lead n (mrgs (alone n) (l.take i)) L) ⟨none, none, none, none, _, rfl, e1, hp1, lead_new n⟩ (fun i σ H' hp => ?_) (fun i x σ H' hx hp => ?_) (fun σ H' hp => ?_) (fun _ _ => rfl)
    · obtain ⟨_, _, _, _, _, rfl, e, _⟩ := hp
      exact e
    · obtain ⟨y3, y4, y5, y6, L, rfl, e2, hL, hld⟩ := hp
      obtain ⟨qa, ⟨x, y⟩, rfl, hxy, hq⟩ := hps.2 i x hx
      have hxyN := hin _ (List.mem_of_getElem? hxy)
      -- ends = []
      refine ⟨by show 0 ≤ sizeLine; decide, fun b nb => ?_⟩
      have hpb : p ≠ b := ne_of_none hL nb
      have nbH : H b = none := fresh_back e2 nb
      have hP : IsP n (mrgs (alone n) (l.take i)) := isP_mrgs (isP_alone n) fun z hz => hin z (List.mem_of_mem_take hz)
      rw [show l.take (i + 1) = l.take i ++ [(x, y)] by rw [List.take_add_one, hxy]; rfl]
      rw [mrgs_snoc]
      generalize hPP : mrgs (alone n) (l.take i) = P at hP hld
      -- for end in pair
      refine ⟨_, rfl, qa, rfl, ⟨_, ex_t (e2.trans (Ex.new nb)) hq⟩, ?_⟩
      refine for_tup (xs := [.int x, .int y]) (fun j σ H' => ∃ (y5 y6 : Option V) (L : List Nat), σ = [some (.int n), some (.ref a), some (.ref p), some (.ref qa), some (.ref b), y5, y6] ∧ Ex H H' ∧ H' p = some (.lst (nvs L)) ∧ H' b = some (.lst (nvs (([x, y].take j).map (itm P)))) ∧ Lead n P L) ⟨_, _, L, rfl, e2.trans (Ex.new nb), (upd_ne hpb).trans hL, upd_same, hld⟩ (fun j σ H' _ hp => ?_) (fun j v σ H' hv hp => ?_) (fun σ H' hp => ?_)
      · obtain ⟨_, _, _, rfl, e, _⟩ := hp
        exact ex_t e hq
      · obtain ⟨y5, y6, L, rfl, e3, hL, hb, hld⟩ := hp
        have hz : ∃ z : Nat, v = .int z ∧ [x, y][j]? = some z ∧ 1 ≤ z ∧ z ≤ n := by
          match j, hv with
          | 0, hv => exact ⟨x, (Option.some.inj hv).symm, rfl, hxyN.1⟩
          | 1, hv => exact ⟨y, (Option.some.inj hv).symm, rfl, hxyN.2⟩
        obtain ⟨z, rfl, hz, hz1, hz2⟩ := hz
        -- while lead[end] != end
        refine while_by (fun σ H' => ∃ (e : Nat) (L : List Nat), σ = [some (.int n), some (.ref a), some (.ref p), some (.ref qa), some (.ref b), some (.int e), y6] ∧ Ex H H' ∧ H' p = some (.lst (nvs L)) ∧ H' b = some (.lst (nvs (([x, y].take j).map (itm P)))) ∧ Lead n P L ∧ 1 ≤ e ∧ e ≤ n ∧ itm P e = itm P z) end5 ⟨z, L, rfl, e3, hL, hb, hld, hz1, hz2, rfl⟩ (fun σ H' hp => ?_) (fun σ H' Q Q' hQ h => ?_)
        · obtain ⟨e, L, rfl, e3, hL, hb, hld, he1, he2, hez⟩ := hp
          refine ⟨_, rfl, _, rfl, p, _, e, _, rfl, rfl, sq_of hL, lead_get hld he2, _, rfl, rfl, _, rfl, ite2 (fun hne => ?_) (fun hne => ?_)⟩
          · have hf := hld.to e he1 he2
            have hfe := hld.le e he2
            have hne : L.getD e 0 ≠ e := fun z => by
              rw [z] at hne
              simp at hne
            have hg := hld.to (L.getD e 0) hf.1 (by omega)
            have hgf := hld.le (L.getD e 0) (by omega)
            have hld2 := hld.half he1 he2
            have hel : e < L.length := by rw [hld.len]; omega
            have hge : (L.set e (L.getD (L.getD e 0) 0)).getD e 0 = L.getD (L.getD e 0) 0 := by rw [getD_set hel, if_pos rfl]
            refine ⟨_, rfl, _, rfl, _, rfl, p, _, e, _, rfl, rfl, sq_of hL, lead_get hld he2, p, _, _, _, rfl, rfl, sq_of hL, lead_get hld (by omega), _, rfl, _, rfl, p, _, _, e, rfl, rfl, hL, ixN_nat (by rw [nvs_len]; exact hel), ?_⟩
            rw [nvs_set]
            refine ⟨_, rfl, _, rfl, p, _, e, _, rfl, rfl, sq_of upd_same, lead_get hld2 he2, ?_⟩
            rw [hge]
            refine ⟨⟨L.getD (L.getD e 0) 0, _, rfl, e3.mut np, upd_same, (upd_ne hpb.symm).trans hb, hld2, hg.1, by omega, by rw [hg.2, hf.2, hez]⟩, ?_⟩
            show (((L.getD (L.getD e 0) 0 : Nat) : Int)).toNat < ((e : Nat) : Int).toNat
            omega
          · have he : L.getD e 0 = e := by
              have : decide (V.int ((L.getD e 0 : Nat) : Int) = V.int (e : Int)) = true := by
                cases h : decide (V.int ((L.getD e 0 : Nat) : Int) = V.int (e : Int)) with
                | true => rfl
                | false => exact absurd (by rw [h]; rfl) hne
              have := of_decide_eq_true this
              injection this with this
              omega
            have hz' : itm P z = e := by rw [← hez]; exact hld.end_ e he1 he2 he
            -- ends.append(end)
            refine ⟨_, rfl, .inl ⟨rfl, _, sq_of hb⟩, _, rfl, b, _, _, rfl, rfl, hb, ?_, _, _, L, rfl, e3.mut nbH, (upd_ne hpb).trans hL, ?_, hld⟩
            · rw [nvs_len, List.length_map, List.length_take]
              have : 2 < sizeLine := by decide
              have : [x, y].length = 2 := rfl
              omega
            · rw [List.take_add_one, hz, List.map_append, upd_same]
              show some (HO.lst _) = some (.lst (nvs (_ ++ [itm P z])))
              rw [hz']
              unfold nvs
              rw [List.map_append]
              rfl
        · obtain ⟨a1, a2, a3, a4, a5, a6, a7, a8, a9, a10, a11, a12, a13, a14, a15, a16, a17, a18⟩ := h
          exact ⟨a1, a2, a3, a4, a5, a6, a7, a8, a9, a10, a11, a12, a13, a14, a15, a16, a17, hQ _ _ a18⟩
      · -- lead[max(ends)] = min(ends)
        obtain ⟨y5, y6, L, rfl, e3, hL, hb, hld⟩ := hp
        have hb : H' b = some (.lst ([(itm P x : Int), (itm P y : Int)].map V.int)) := hb
        have ax := hP.lo x hxyN.1.1 hxyN.1.2
        have ay := hP.lo y hxyN.2.1 hxyN.2.2
        have hm : max (itm P x) (itm P y) < L.length := by rw [hld.len]; omega
        refine ⟨_, rfl, b, _, rfl, sq_of hb, Nat.zero_lt_succ _, fun m hm1 hm2 => ?_⟩
        rw [two_min hm1 hm2]
        refine ⟨_, rfl, _, rfl, b, _, rfl, sq_of hb, Nat.zero_lt_succ _, fun m2 hm3 hm4 => ?_⟩
        rw [two_max hm3 hm4]
        refine ⟨p, _, _, _, rfl, rfl, hL, ixN_nat (by rw [nvs_len]; exact hm), _, _, _, _, _, rfl, e3.mut np, ?_, hld.join hP ⟨ax.1, by omega⟩ ⟨ay.1, by omega⟩ rfl rfl (hP.rt x hxyN.1.1 hxyN.1.2) (hP.rt y hxyN.2.1 hxyN.2.2)⟩
        rw [nvs_set]
        exact upd_same
    · obtain ⟨y3, y4, y5, y6, L, rfl, e2, hL, hld⟩ := hp
      have hP : IsP n (mrgs (alone n) l) := isP_mrgs (isP_alone n) hin
      rw [List.take_of_length_le (by rw [hps.1]; exact Nat.le_refl _)] at hld
      generalize hPP : mrgs (alone n) l = P at hP hld q
      -- for case in range(1, many + 1)
      refine ⟨_, rfl, n, 1, rfl, rfl, 1, _, rfl, ⟨by omega, by omega, by omega, by omega⟩, ?_⟩
      rw [show ((n : Int) + 1 - 1).toNat = n by omega]
      refine for_it walk_range (fun j σ H' => ∃ (y6 : Option V) (L : List Nat), σ = [some (.int n), some (.ref a), some (.ref p), y3, y4, y5, y6] ∧ Ex H H' ∧ H' p = some (.lst (nvs L)) ∧ Lead n P L ∧ ∀ c, 1 ≤ c → c ≤ j → L.getD c 0 = itm P c) ⟨y6, L, rfl, e2, hL, hld, fun c h1 h2 => absurd h2 (by omega)⟩ (fun _ _ _ _ _ => trivial) (fun j x σ H' H2 hj hp hx => ?_) (fun σ H' hp => ?_)
      · obtain ⟨rfl, rfl⟩ := hx
        obtain ⟨y6, L, rfl, e3, hL, hld, hd⟩ := hp
        have hc : (1 : Int) + (j : Nat) = ((j + 1 : Nat) : Int) := by omega
        rw [show (fun i : Nat => V.int (1 + (i : Int))) j = V.int ((j + 1 : Nat) : Int) from congrArg V.int hc]
        have h1 : 1 ≤ j + 1 := by omega
        have h2 : j + 1 ≤ n := by omega
        have hf := hld.to _ h1 h2
        have hfe := hld.le _ h2
        have hel : j + 1 < L.length := by rw [hld.len]; omega
        have hv : L.getD (L.getD (j + 1) 0) 0 = itm P (j + 1) := by
          by_cases g : L.getD (j + 1) 0 = j + 1
          · rw [g, g]
            exact (hld.end_ _ h1 h2 g).symm
          · rw [hd _ hf.1 (by omega), hf.2]
        refine ⟨_, rfl, _, rfl, _, rfl, p, _, _, _, rfl, rfl, sq_of hL, lead_get hld h2, p, _, _, _, rfl, rfl, sq_of hL, lead_get hld (by omega), _, rfl, _, rfl, p, _, _, (j + 1), rfl, rfl, hL, ixN_nat (by rw [nvs_len]; exact hel), _, _, rfl, e3.mut np, ?_, hld.half h1 h2, fun c g1 g2 => ?_⟩
        · rw [nvs_set]
          exact upd_same
        · rw [getD_set hel]
          split
          · rename_i g
            rw [g]
            exact hv
          · exact hd c g1 (by omega)
      · obtain ⟨y6, L, rfl, e3, hL, hld, hd⟩ := hp
        have hLP : L.drop 1 = P := by
          refine List.ext_getElem? fun k => ?_
          rw [List.getElem?_drop]
          by_cases hk : k < n
          · have := hd (k + 1) (by omega) (by omega)
            have h := itm_get (p := P) (x := k + 1) (by omega) (by rw [hP.len]; omega)
            rw [Nat.add_sub_cancel] at h
            rw [h, ← this, List.getD_eq_getElem?_getD, Nat.add_comm 1 k, List.getElem?_eq_getElem (by rw [hld.len]; omega)]
            rfl
          · rw [List.getElem?_eq_none (by rw [hld.len]; omega), List.getElem?_eq_none (by rw [hP.len]; omega)]
        have hcut : cutV (nvs L) (some 1) none = nvs P := by
          rw [cut_from]
          unfold nvs
          rw [← List.map_drop, hLP]
        refine ⟨_, rfl, 1, rfl, p, _, rfl, sq_of hL, fun p2 np2 => ?_⟩
        rw [hcut]
        refine ⟨p2, _, rfl, .inl ⟨sq_of upd_same, fun p3 np3 => ?_⟩⟩
        exact q p3 _ ((e3.trans (Ex.new np2)).trans (Ex.new np3)) (fresh_back (e3.trans (Ex.new np2)) np3) upd_same
end
end Eyes

set_option Elab.async false
set_option linter.all false
set_option maxRecDepth 100000
set_option maxHeartbeats 4000000
namespace Eyes
open PySem PySem.Spec PyProof.Rows L2 Evl TL
/-! ### the law's own partings -/
theorem itm_at {p : List Nat} {x : Nat} (h1 : 1 ≤ x) (h2 : x ≤ p.length) : atI (nvs p) ((x : Int) - 1) = some (.int (itm p x : Nat)) := by
  rw [show (x : Int) - 1 = ((x - 1 : Nat) : Int) by omega]
  exact atI_nat (nvs_get (itm_get h1 h2))
def spMerged (K : PySem.W.Frag) : Sp := fun vs H Q _ => ∃ (n : Nat) (a b : Addr) (p : List Nat) (ws : List V) (l : List (Nat × Nat)), vs = [.ref a, .ref b] ∧ n ≤ 4096 ∧ SqT K H a (nvs p) ∧ IsP n p ∧ SqL K H b ws ∧ Prs K H ws l ∧ inN n l ∧ ∀ q H', Ex H H' → H q = none → H' q = some (.tup (nvs (mrgs p l))) → Q (.ref q) H'
theorem int_min {a b : Nat} : (if (b : Int) < a then (b : Int) else a) = ((min a b : Nat) : Int) := by
  split <;> omega
theorem int_max {a b : Nat} : (if (b : Int) > a then (b : Int) else a) = ((max a b : Nat) : Int) := by
  split <;> omega
section
variable {P : Program} {w : World} {K : PySem.W.Frag} {mg : Str → Option Value} {base : Heap} {AA : Adr}
theorem ok_law_alone (T : Txt K mg AA) : Pr P w K mg base "_law_alone" s_law_alone p_law_alone 1 spApart := by
  refine pr_mk T.f_law_alone sc_law_alone (fun vs H Q E h => ?_) (fun f cdv A outer s H vs Q E hr h => ?_)
  · obtain ⟨n, rfl, _⟩ := h
    rfl
  · obtain ⟨n, rfl, hn, q⟩ := h
    refine ⟨_, (pss_one (ps_ret (pe_tupRg rfl (by rfl) T.n_tuple (prg_2 (by rfl) T.n_range pe_int (pe_op op_add (pv 0) pe_int))))), ?_⟩
    have g := q
    simp only [← rgV_alone] at g
    exact ⟨_, rfl, n, 1, rfl, rfl, 1, _, rfl, rfl, RgOk.of_le (by omega) (by omega) (by omega) (by omega), g⟩
theorem ok_law_merged (T : Txt K mg AA) : Pr P w K mg base "_law_merged" s_law_merged p_law_merged 1 (spMerged K) := by
  refine pr_mk T.f_law_merged sc_law_merged (fun vs H Q E h => ?_) (fun f cdv A outer s H vs Q E hr h => ?_)
  · obtain ⟨n, a, b, p, ws, l, rfl, _⟩ := h
    rfl
  · obtain ⟨n, a, b, p, ws, l, rfl, hn, ha, hP, hb, hps, hin, q⟩ := h
    refine ⟨_, (pss_cons (ps_set (i := 2) sc_law_merged.nd rfl (.inl rfl) (pe_callTy call_list_of (by rfl) T.n_list PyProof.Rows.boot_list (pa_cons (pv 0) pa_nil)))
      (pss_cons (ps_for PassesOwn.never rfl (pi_list (pv 1)) (pg_tup (by rfl) (pgs_cons (pg_name (i := 3) sc_law_merged.nd rfl (.inl rfl)) (pgs_cons (pg_name (i := 4) sc_law_merged.nd rfl (.inl rfl)) pgs_nil)))
      (pss_cons (ps_asg (pe_tup (pa_cons (pe_callB (call_min2 rfl) (by rfl) T.n_min PyProof.Rows.boot_min (pa_cons (pe_ix (ix_listK (K := K) rfl) (pv 2) (pe_op op_sub (pv 3) pe_int) (fun _ _ => rfl)) (pa_cons (pe_ix (ix_listK (K := K) rfl) (pv 2) (pe_op op_sub (pv 4) pe_int) (fun _ _ => rfl)) pa_nil))) (pa_cons (pe_callB (call_max2 rfl) (by rfl) T.n_max PyProof.Rows.boot_max (pa_cons (pe_ix (ix_listK (K := K) rfl) (pv 2) (pe_op op_sub (pv 3) pe_int) (fun _ _ => rfl)) (pa_cons (pe_ix (ix_listK (K := K) rfl) (pv 2) (pe_op op_sub (pv 4) pe_int) (fun _ _ => rfl)) pa_nil))) pa_nil))) (pg_tup (by rfl) (pgs_cons (pg_name (i := 5) sc_law_merged.nd rfl (.inr rfl)) (pgs_cons (pg_name (i := 6) sc_law_merged.nd rfl (.inr rfl)) pgs_nil))))
      (pss_one (ps_if (pt_cmpR op_lt (pv 5) (pv 6) (nomark _))
      (pss_one (ps_setLc (i := 2) (own := [("_law_z", 7)]) (g := gName 7) (tt := tYes) rfl sc_law_merged.nd rfl rfl (sw_true rfl rfl rfl (by decide +kernel)) (pi_list (pv 2)) (blkOk_by (own := [("_law_z", 7)]) (N := n_law_merged) (sc := defScope s_law_merged) (by decide +kernel)) (fun _ _ _ _ _ => (pg_name (i := 7) sc_law_merged.nd rfl (.inl rfl))) (fun _ _ _ _ _ => pts_nil) (fun _ _ _ _ _ => (pe_ifExp (pt_cmpR op_eq (pv 7) (pv 6) (nomark _)) (pv 5) (pv 7)))))
      pss_nil))))
      (pss_one (ps_ret (pe_callTy call_tuple_of (by rfl) T.n_tuple PyProof.Rows.boot_tuple (pa_cons (pv 2) pa_nil)))))), ?_⟩
    -- found = list(rows)
    refine ⟨_, rfl, a, _, rfl, .inr ha, fun r nr => ?_⟩
    -- for x, y in couples
    refine ⟨_, rfl, b, rfl, ⟨ws, ex_l (Ex.new nr) hb⟩, ?_⟩
    refine for_list (xs := ws) (fun i σ H' => ∃ (r : Addr) (y3 y4 y5 y6 y7 : Option V), σ = [some (.ref a), some (.ref b), some (.ref r), y3, y4, y5, y6, y7] ∧ Ex H H' ∧ H' r = some (.lst (nvs (mrgs p (l.take i))))) ⟨r, none, none, none, none, none, rfl, Ex.new nr, upd_same⟩ (fun i σ H' _ hp => ?_) (fun i x σ H' hx hp => ?_) (fun σ H' hp => ?_)
    · obtain ⟨_, _, _, _, _, _, rfl, e, _⟩ := hp
      exact ex_l e hb
    · obtain ⟨r, y3, y4, y5, y6, y7, rfl, e, hr1⟩ := hp
      obtain ⟨qa, ⟨x, y⟩, rfl, hxy, hq⟩ := hps.2 i x hx
      have hxyN := hin _ (List.mem_of_getElem? hxy)
      have hPi : IsP n (mrgs p (l.take i)) := isP_mrgs hP fun z hz => hin z (List.mem_of_mem_take hz)
      rw [show l.take (i + 1) = l.take i ++ [(x, y)] by rw [List.take_add_one, hxy]; rfl]
      rw [mrgs_snoc]
      generalize hPP : mrgs p (l.take i) = P at hPi hr1
      have ax := hPi.lo x hxyN.1.1 hxyN.1.2
      have ay := hPi.lo y hxyN.2.1 hxyN.2.2
      have gx : atI (nvs P) ((x : Int) - 1) = some (.int (itm P x : Nat)) := itm_at hxyN.1.1 (by rw [hPi.len]; exact hxyN.1.2)
      have gy : atI (nvs P) ((y : Int) - 1) = some (.int (itm P y : Nat)) := itm_at hxyN.2.1 (by rw [hPi.len]; exact hxyN.2.2)
      refine ⟨qa, _, rfl, ex_t e hq, rfl, _, _, rfl, _, _, rfl, rfl, ?_⟩
      -- low, high = (min, max)
      refine ⟨_, rfl, _, rfl, x, 1, rfl, rfl, r, _, _, _, rfl, rfl, sq_of hr1, gx, _, rfl, _, rfl, y, 1, rfl, rfl, r, _, _, _, rfl, rfl, sq_of hr1, gy, _, _, rfl, ?_⟩
      rw [int_min]
      refine ⟨_, rfl, _, rfl, x, 1, rfl, rfl, r, _, _, _, rfl, rfl, sq_of hr1, gx, _, rfl, _, rfl, y, 1, rfl, rfl, r, _, _, _, rfl, rfl, sq_of hr1, gy, _, _, rfl, ?_⟩
      rw [int_max]
      refine ⟨by show 2 ≤ sizeLine; decide, fun t nt => ⟨t, _, rfl, st_of upd_same, rfl, _, _, rfl, _, _, rfl, rfl, ?_⟩⟩
      have e2 : Ex H (upd H' t (.tup [V.int ((min (itm P x) (itm P y) : Nat) : Int), V.int ((max (itm P x) (itm P y) : Nat) : Int)])) := e.trans (Ex.new nt)
      have hr2 : (upd H' t (.tup [V.int ((min (itm P x) (itm P y) : Nat) : Int), V.int ((max (itm P x) (itm P y) : Nat) : Int)])) r = some (.lst (nvs P)) := (Ex.new nt) _ _ hr1
      generalize upd H' t _ = Hc at e2 hr2
      -- if low < high
      refine ⟨_, rfl, _, rfl, _, _, rfl, rfl, _, rfl, ite2 (fun hlt => ?_) (fun hlt => ?_)⟩
      · refine ⟨_, rfl, r, rfl, ⟨_, sq_of hr2⟩, fun D hD => lc_it (walk_list (xs := nvs P)) (fun j H' => Hc D = none ∧ Ex Hc H' ∧ H' D = some (.lst (nvs ((P.take j).map fun z => if z = max (itm P x) (itm P y) then min (itm P x) (itm P y) else z)))) ⟨hD, Ex.new hD, upd_same⟩ (fun _ _ _ hp => ex_l hp.2.1 (sq_of hr2)) (fun j v H3 H4 hj hp hy => ?_) (fun H' hp => ?_)⟩
        · obtain ⟨rfl, hv⟩ := hy
          obtain ⟨h1, h2, h3⟩ := hp
          unfold nvs at hv
          rw [List.getElem?_map] at hv
          obtain ⟨z, hz, rfl⟩ := Option.map_eq_some_iff.mp hv
          have fin : ∀ u : Nat, u = (if z = max (itm P x) (itm P y) then min (itm P x) (itm P y) else z) → ∃ acc, H4 D = some (HO.lst acc) ∧ acc.length < sizeLine ∧ Hc D = none ∧ Ex Hc (upd H4 D (.lst (acc ++ [V.int (u : Int)]))) ∧ (upd H4 D (.lst (acc ++ [V.int (u : Int)]))) D = some (.lst (nvs ((P.take (j + 1)).map fun z => if z = max (itm P x) (itm P y) then min (itm P x) (itm P y) else z))) := fun u hu => by
            refine ⟨_, h3, ?_, h1, h2.mut h1, ?_⟩
            · rw [nvs_len, List.length_map, List.length_take, hPi.len]
              have : 4097 < sizeLine := by decide
              omega
            · rw [upd_same, List.take_add_one, hz, List.map_append, hu]
              unfold nvs
              rw [List.map_append]
              rfl
          refine ⟨rfl, _, rfl, _, rfl, rfl, _, rfl, ite2 (fun he => ?_) (fun he => ?_)⟩
          · refine ⟨_, rfl, fin _ ?_⟩
            have h5 : V.int (z : Int) = V.int ((max (itm P x) (itm P y) : Nat) : Int) := of_decide_eq_true he
            injection h5 with h5
            rw [if_pos (Int.ofNat.inj h5)]
          · refine ⟨_, rfl, fin _ ?_⟩
            rw [if_neg fun g => he (by rw [g]; exact decide_eq_true rfl)]
        · obtain ⟨h1, h2, h3⟩ := hp
          rw [List.take_of_length_le (by rw [nvs_len]; exact Nat.le_refl _)] at h3
          exact ⟨D, _, _, _, _, _, rfl, e2.trans h2, h3⟩
      · refine ⟨r, _, _, _, _, _, rfl, e2, ?_⟩
        rw [hr2]
        have hle : ¬ (min (itm P x) (itm P y) < max (itm P x) (itm P y)) := fun g => hlt (decide_eq_true (by omega))
        have hid : mrg1 P x y = P := by
          unfold mrg1
          refine (List.map_congr_left fun z _ => ?_).trans (List.map_id P)
          by_cases g : z = max (itm P x) (itm P y)
          · rw [if_pos g]
            show min (itm P x) (itm P y) = z
            omega
          · rw [if_neg g]
            rfl
        show _ = some (HO.lst (nvs (mrg1 P x y)))
        rw [hid]
    · obtain ⟨r, y3, y4, y5, y6, y7, rfl, e, hr1⟩ := hp
      rw [List.take_of_length_le (by rw [hps.1]; exact Nat.le_refl _)] at hr1
      refine ⟨_, rfl, r, _, rfl, .inl ⟨sq_of hr1, fun t nt => ?_⟩⟩
      exact q t _ (e.trans (Ex.new nt)) (fresh_back e nt) upd_same
end
end Eyes

set_option Elab.async false
set_option linter.all false
set_option maxRecDepth 100000
set_option maxHeartbeats 4000000
namespace Eyes
open PySem PySem.Spec PyProof.Rows L2 Evl TL
theorem dp_nats {K : PySem.W.Frag} {H : Hp} : ∀ l : List Nat, DpAll K H (l.map fun c => V.int ((c : Nat) : Int)) (l.map fun c => PyData.int ((c : Nat) : Int))
  | [] => .nil
  | _ :: l => .cons (.int _) (dp_nats l)
theorem shaped_nats (l : List Nat) : SeqAt.shaped (.list (l.map fun c => PyData.int ((c : Nat) : Int))) = true := by
  have h1 : PyData.canLay0 (.list (l.map fun c => PyData.int ((c : Nat) : Int))) = true := by
    show PyData.canLayAll0 _ = true
    induction l with
    | nil => rfl
    | cons c l ih =>
      show (PyData.canLay0 (.int _) && PyData.canLayAll0 (l.map fun c => PyData.int ((c : Nat) : Int))) = true
      rw [ih, Bool.and_true]
      rfl
  have h2 : PyData.depth (.list (l.map fun c => PyData.int ((c : Nat) : Int))) ≤ 64 := by
    have : PyData.depthAll (l.map fun c => PyData.int ((c : Nat) : Int)) = 0 := by
      clear h1
      induction l with
      | nil => rfl
      | cons c l ih =>
        show max (PyData.depth (.int _)) _ = 0
        rw [ih]
        rfl
    show PyData.depthAll _ + 1 ≤ 64
    rw [this]
    decide
  unfold SeqAt.shaped
  rw [h1, decide_eq_true h2]
  rfl
def Prh (H : Hp) (vs : List V) (l : List (Nat × Nat)) : Prop := vs.length = l.length ∧ ∀ (i : Nat) v, vs[i]? = some v → ∃ t xy, v = .ref t ∧ l[i]? = some xy ∧ H t = some (.tup [.int xy.1, .int xy.2])
theorem Prh.to {K : PySem.W.Frag} {H : Hp} {vs : List V} {l : List (Nat × Nat)} (h : Prh H vs l) : Prs K H vs l :=
  ⟨h.1, fun i v hv => by
    obtain ⟨t, xy, a, b, c⟩ := h.2 i v hv
    exact ⟨t, xy, a, b, st_of c⟩⟩
theorem Prh.ex {H H' : Hp} {vs : List V} {l : List (Nat × Nat)} (h : Prh H vs l) (e : Ex H H') : Prh H' vs l :=
  ⟨h.1, fun i v hv => by
    obtain ⟨t, xy, a, b, c⟩ := h.2 i v hv
    exact ⟨t, xy, a, b, e _ _ c⟩⟩
theorem Prh.put {H : Hp} {D : Addr} {xs : List V} {o : HO} {vs : List V} {l : List (Nat × Nat)} (h : Prh H vs l) (hD : H D = some (.lst xs)) : Prh (upd H D o) vs l :=
  ⟨h.1, fun i v hv => by
    obtain ⟨t, xy, a, b, c⟩ := h.2 i v hv
    refine ⟨t, xy, a, b, ?_⟩
    rw [upd_ne fun e => by rw [e, hD] at c; cases c]
    exact c⟩
theorem Prh.snoc {H : Hp} {vs : List V} {l : List (Nat × Nat)} (h : Prh H vs l) {t : Addr} {xy : Nat × Nat} (ht : H t = some (.tup [.int xy.1, .int xy.2])) : Prh H (vs ++ [.ref t]) (l ++ [xy]) :=
  ⟨by rw [List.length_append, List.length_append, h.1]; rfl, fun i v hv => by
    by_cases g : i < vs.length
    · rw [List.getElem?_append_left g] at hv
      obtain ⟨t, xy, a, b, c⟩ := h.2 i v hv
      refine ⟨t, xy, a, ?_, c⟩
      rw [List.getElem?_append_left (by rw [← h.1]; exact g)]
      exact b
    · rw [List.getElem?_append_right (by omega)] at hv
      have hi : i - vs.length = 0 := by
        cases hj : i - vs.length with
        | zero => rfl
        | succ j =>
          rw [hj] at hv
          cases hv
      rw [hi] at hv
      refine ⟨t, xy, (Option.some.inj hv).symm, ?_, ht⟩
      rw [List.getElem?_append_right (by rw [← h.1]; omega), ← h.1, hi]
      rfl⟩
def inn (p q : List Nat) : Bool := (List.range p.length).all fun k => decide (itm q (k + 1) = itm q (itm p (k + 1)))
def numd (n : Nat) (q : List Nat) : List (Nat × Nat) := (List.range n).map fun k => (k + 1, itm q (k + 1))
def spWithin (K : PySem.W.Frag) : Sp := fun vs H Q _ => ∃ (n : Nat) (a b : Addr) (p q : List Nat), vs = [.ref a, .ref b] ∧ n ≤ 4096 ∧ SqT K H a (nvs p) ∧ IsP n p ∧ SqT K H b (nvs q) ∧ IsP n q ∧ ∀ H', Ex H H' → Q (.bl (inn p q)) H'
def spJoinedL (K : PySem.W.Frag) : Sp := fun vs H Q _ => ∃ (n : Nat) (a b : Addr) (p q : List Nat), vs = [.ref a, .ref b] ∧ n ≤ 4096 ∧ SqT K H a (nvs p) ∧ IsP n p ∧ SqT K H b (nvs q) ∧ IsP n q ∧ ∀ r H', Ex H H' → H r = none → H' r = some (.tup (nvs (mrgs p (numd n q)))) → Q (.ref r) H'
theorem numd_in {n : Nat} {q : List Nat} (h : IsP n q) : inN n (numd n q) := fun xy hxy => by
  unfold numd at hxy
  obtain ⟨k, hk, rfl⟩ := List.mem_map.mp hxy
  have := List.mem_range.mp hk
  have g := h.lo (k + 1) (by omega) (by omega)
  exact ⟨⟨by omega, by omega⟩, g.1, by show itm q (k + 1) ≤ n; omega⟩
theorem all_take {n : Nat} {f : Nat → Bool} : ((List.range n).map f).all id = (List.range n).all f := by
  rw [List.all_map]
  rfl
section
variable {P : Program} {w : World} {K : PySem.W.Frag} {mg : Str → Option Value} {base : Heap} {AA : Adr}
end
end Eyes

set_option Elab.async false
set_option linter.all false
set_option maxRecDepth 100000
set_option maxHeartbeats 4000000
/-! enumerate(list), enumerate(.., start=k) in a for. -/
namespace Eyes
open PySem PySem.Spec PyProof.Rows L2
def IteL (K : PySem.W.Frag) (a : Addr) (k : Int) : It :=
  ⟨fun i H => ∃ (xs : List V) (x : V), SqL K H a xs ∧ xs[i]? = some x, fun i H v H' => ∃ T x, v = .ref T ∧ H T = none ∧ H' = upd H T (.tup [.int (k + (i : Nat)), x]) ∧ ∀ xs, SqL K H a xs → xs[i]? = some x, fun i H => ∃ xs : List V, SqL K H a xs ∧ xs.length ≤ i⟩
theorem turn_enumL {P : Program} {w : World} {K : PySem.W.Frag} {elts : List Expr} {kk : Nat} {tpos : Pos} (a e it : Addr) (k : Int) (nai : a ≠ it) :
    Turn P w K (.Tuple elts kk tpos) (IteL K a k) [e, it] e (fun i h => (∃ old, IsEnum h e it (k + (i : Nat)) old) ∧ h.IsListIter it a i ∧ e ≠ it ∧ a ≠ e) where
  mem := by simp
  obj := fun i h st b hb => by
    obtain ⟨⟨old, he⟩, ⟨o, ho, hc, hd⟩, _⟩ := st
    rcases (show b = e ∨ b = it by simpa using hb) with z | z
    · rw [z]
      exact ⟨_, he, fun v q => nomatch q⟩
    · rw [z]
      exact ⟨o, ho, fun v q => by rw [hd] at q; cases q⟩
  keep := fun i h h' st kp => by
    obtain ⟨⟨old, he⟩, hi, hne, hna⟩ := st
    exact ⟨⟨old, kp e (by simp) _ he⟩, hi.at fun o q => kp it (by simp) o q, hne, hna⟩
  item := by
    intro X hP hw hK hc i pins s σ H E I hf st hg
    subst hP hw hK
    obtain ⟨⟨old, he⟩, hit, hne, hna⟩ := st
    obtain ⟨xs, x, hq, hx⟩ := hg
    obtain ⟨its, rv, p, hz⟩ := I.list hq
    obtain ⟨u, hu, ru⟩ := rv.get hx
    have el : e < s.heap.objs.size := Heap.lt_size he
    have il : it < s.heap.objs.size := by
      obtain ⟨_, q, _⟩ := hit
      exact Heap.lt_size q
    have isT : s.heap.IsList a its.toArray := p.isList
    have lti : i < its.length := by
      rcases Nat.lt_or_ge i its.length with z | z
      · exact z
      · rw [List.getElem?_eq_none z] at hu
        cases hu
    have D := Draws.list (prog := X.prog) (w := X.w) (A := X.A.in1) (by have := I.ok.hd hc; simpa using this) it a nai its.toArray
    refine wpAny_pyNext_enum_itemC D he ⟨hit, isT⟩ (by simpa using lti) hne (by simp [hne, Ne.symm hna]) fun y h' tk hy ho hst hT hsz hk => ?_
    have ey : y = u := by
      have z : its.toArray[i]? = some y := hy
      rw [List.getElem?_toArray, hu] at z
      exact (Option.some.inj z).symm
    subst ey
    refine ⟨_, rfl, wpAny_letOwnedTupleGo_enum (s := { s with heap := h', toks := tk + 1 }) ho fun h2 he2 sb => ?_⟩
    have T2 : h2.get? s.heap.objs.size = some { cls := .type "tuple", data := .seq #[.int (k + (i : Nat)) tk, y] } := (sb.2 _ (Nat.ne_of_gt el)).trans hT
    have new : ObjOk X.prog X.w (upd H s.heap.objs.size (.tup [.int (k + (i : Nat)), x])) h2 s.heap.objs.size (.tup [.int (k + (i : Nat)), x]) :=
      ⟨by show 2 ≤ sizeLine; decide, [.int (k + (i : Nat)) tk, y], .cons ⟨_, rfl⟩ (.cons ru .nil), ⟨_, T2, rfl, _, rfl⟩⟩
    have I1 : Inv X pins σ (upd H s.heap.objs.size (.tup [.int (k + (i : Nat)), x])) { s with heap := h2, toks := tk + 1 } :=
      I.turnedNew (ch := [e, it]) (fun b ob hb q => (sb.2 b (fun z => hb (by simp [z]))).trans (hk b ob (fun z => hb (by simp [z])) (fun z => hb (by simp [z])) q)) hf (Nat.le_refl _) new
    refine ⟨.ref s.heap.objs.size, _, I1, rfl, ⟨_, x, rfl, I.hok.fresh (Nat.le_refl _), rfl, fun ys hy => by rw [I.list_inj hy hq]; exact hx⟩, ⟨⟨y, ?_⟩, hst.1.at fun o q => (sb.2 it (Ne.symm hne)).trans q, hne, hna⟩, fun b hb => ?_⟩
    · rw [show (k + ((i + 1 : Nat) : Int)) = k + (i : Nat) + 1 by omega]
      exact he2
    · have lt : b < s.heap.objs.size := by
        rcases (show b = e ∨ b = it by simpa using hb) with z | z
        · rw [z]; exact el
        · rw [z]; exact il
      rw [upd_ne (Nat.ne_of_lt lt)]
      exact (hf b hb).1
  done := by
    intro X hP hw hK hc i pins s σ H E I hf st hg
    subst hP hw hK
    obtain ⟨⟨old, he⟩, hit, hne, hna⟩ := st
    obtain ⟨xs, hq, hx⟩ := hg
    obtain ⟨its, rv, p, hz⟩ := I.list hq
    have isT : s.heap.IsList a its.toArray := p.isList
    obtain ⟨f0, f1, f2, f3, f4, f5⟩ := hf it (by simp)
    have hl := rv.length
    have hh : X.A.in1.in1.handled = none := by have := I.ok.hd hc; simpa using this
    -- what is behind the end: a draw of a tuple as long as the count
    have stop : ∀ (Q : Value → Shared → Prop) (E : Value → Shared → Prop), (∀ h' e, Heap.ExtBut it s.heap h' → (∃ o, h'.get? e = some o ∧ o.cls = .type "StopIteration") → E (.ref e) { s with heap := h' }) → wpAny (model X.prog X.w) X.A.in1 (Builtin.SmallTypes.nextOf (.ref it)) Q E s :=
      fun Q E hE => wpAny_nextOf_list_end (by have := I.ok.hd hc; simpa using this) hit isT (by simp; omega) hE
    have hT : s.TypeIs (.ref e) "enumerate" := ⟨_, he, rfl⟩
    unfold pyNext
    refine wpAny_bind (wpAny_attempt (wpAny_callSpecial?_slot (name := Str.ofString "__next__") hT PySem.F.slot_enumerate_next (wpAny_call_entry PySem.F.slot_enumerate_next hT PySem.F.entry_enumerate_next ?_ (PySem.F.args_enumerate_next_1 _))))
    show wpAny _ _ (field (.ref e) 2 >>= _) _ _ _
    refine wpAny_bind (wpAny_field he rfl (x := .ref it) rfl (wpAny_bind (stop _ _ fun h' x eb hx' => ?_)))
    obtain ⟨o, ho, hc'⟩ := hx'
    refine wpAny_bind (wpAny_isInstance (T := "StopIteration") (b := true) ⟨o, ho, hc'⟩ isSubtype_stop (wpAny_pure ?_))
    exact ⟨rfl, I.turned (t' := s.toks) (fun b o hb q => eb b o hb q) f0 f1 f3 f4 f5⟩
  self := fun A i s Q E st h => by
    obtain ⟨⟨_, he⟩, _⟩ := st
    exact wpAny_pyIter_enum he h
theorem walk_enumL {K : PySem.W.Frag} {a : Addr} {k : Int} {xs : List V} : Walk (IteL K a k) xs.length (fun H => SqL K H a xs) (YPair (fun i => some (.int (k + (i : Nat)))) (fun i => xs[i]?)) := by
  refine ⟨fun i H hi q => ⟨xs, xs[i], q, by simp [hi]⟩, fun H q => ⟨xs, q, Nat.le_refl _⟩, fun i H v H' hi q y => ?_⟩
  obtain ⟨T, x, h1, h2, h3, h4⟩ := y
  exact ⟨T, _, x, h1, h2, h3, rfl, h4 xs q⟩

theorem callWith_tyK {M : Model} {A : Around} {E : Value → Shared → Prop} {s : Shared} {env : Env} {pos : Pos} {T : String} {e : Expr} {rest : List Expr} {kws : List Keyword} {Q : Value → Shared → Prop} (hall : (backToKw pos (keywordEach kws env)).all (·.1.isSome) = true)
    (h : wpAny M A (spliced (backTo pos (starEach (e :: rest) env))) (fun vs s₁ => wpAny M A (evalAll ((backToKw pos (keywordEach kws env)).map (·.2)))
      (fun ks s₂ => wpAny M A (call (.type T) vs (((backToKw pos (keywordEach kws env)).filterMap (·.1)).zip ks)) Q E s₂) E s₁) E s)
    (hplain : ((backTo pos (starEach (e :: rest) env)).any (·.1) || (backToKw pos (keywordEach kws env)).any (·.1.isNone)) = false := by rfl) (he : starEach (e :: rest) env = (false, eval e env) :: starEach rest env := by rfl) :
    wpAny M A (callWith pos (.type T) [] (backTo pos (starEach (e :: rest) env)) (backToKw pos (keywordEach kws env))) Q E s :=
  PySem.W.callWith_of (P := fun _ => True) hplain (fun h _ => ⟨.machine, .inr (.inl rfl), fun A Q E s _ q => wpAny_pure q⟩)
    (evalArgs_kw2 hall (thn h fun vs s1 h1 => thn h1 fun ks s2 h2 => ⟨trivial, h2⟩) he)
def iEnumS (J : Addr → Int → It) (S : Hp → Addr → List V → Prop) (ta tk : TA) : TI := fun σ H R => ta σ H fun vs H1 => tk σ H1 fun ws H2 => ∃ a k xs, vs = [.ref a] ∧ ws = [.int k] ∧ -(2 ^ 63) ≤ k ∧ k < 2 ^ 63 ∧ S H2 a xs ∧ R (J a k) H2
theorem pi_enumTS {X : Cx} {e k : Expr} {ta tk : TA} {p pos tpos kpos : Pos} {elts : List Expr} {kk : Nat} (hg : Gl X "enumerate") (hm : X.mg "enumerate" = none) (ha : PA X [e] ta) (hk : PK X [⟨some "start", k, kpos⟩] tk)
    (hpl : ((backTo pos (starEach [e] X.env)).any (·.1) || (backToKw pos (keywordEach [⟨some "start", k, kpos⟩] X.env)).any (·.1.isNone)) = false := by rfl) (he : starEach [e] X.env = (false, eval e X.env) :: starEach [] X.env := by rfl) :
    PI X (.Tuple elts kk tpos) (.Call (.Name "enumerate" p) [e] [⟨some "start", k, kpos⟩] pos) (iEnumS (IteT X.K) (SqT X.K) ta tk) := by
  refine ⟨fun pins s σ H R I h => ?_⟩
  refine wpAny_Call_Name_kw (ld_blt I hg hm boot_enumerate (callWith_tyK rfl (thn (ha.run pos pins s σ H _ I h) fun us s0 ⟨vs, H0, I0, r0, q0⟩ => thn (hk.run pos pins s0 σ H0 _ I0 q0) fun ks s1 ⟨ws, H1, I1, r1, a, c, xs, ex, ew, c0, c1, hq, q⟩ => ?_) hpl he))
  subst ex ew
  obtain rfl := Vals.ref1 r0
  obtain ⟨u, rfl, ru⟩ := vals1 r1
  obtain ⟨t, rfl⟩ := ru
  obtain ⟨its, rv, tp, hz⟩ := I1.tuple hq
  have isT : s1.heap.IsTuple a its.toArray := by
    obtain ⟨o, e1, e2, n, e3⟩ := tp
    exact ⟨o, e1, e2, n, e3⟩
  have al : a < s1.heap.objs.size := by
    obtain ⟨o, e1, _⟩ := isT
    exact Heap.lt_size e1
  refine enum_begins_start (begins_tuple a its.toArray) isT c0 c1 fun h' he hit hsz hk => wpAny_pyIter_enum he ?_
  have I2 : Inv X pins σ H1 { s1 with heap := h' } := I1.kept (t' := s1.toks) hk
  refine ⟨s1.heap.objs.size + 1, [s1.heap.objs.size + 1, s1.heap.objs.size], _, _, H1, rfl, I2, turn_enumT a (s1.heap.objs.size + 1) s1.heap.objs.size c (Nat.ne_of_lt al), ⟨⟨.none, by simpa using he⟩, ⟨_, hit, rfl, rfl⟩, Nat.succ_ne_self _, Nat.ne_of_lt (Nat.lt_succ_of_lt al)⟩, fun b hb => ?_, q⟩
  have hle : s1.heap.objs.size ≤ b := by
    rcases (show b = s1.heap.objs.size + 1 ∨ b = s1.heap.objs.size by simpa using hb) with z | z
    · rw [z]; exact Nat.le_add_right _ _
    · rw [z]; exact Nat.le_refl _
  exact I1.fpOk hle (I1.hok.fresh hle)
theorem pi_enumLS {X : Cx} {e k : Expr} {ta tk : TA} {p pos tpos kpos : Pos} {elts : List Expr} {kk : Nat} (hg : Gl X "enumerate") (hm : X.mg "enumerate" = none) (ha : PA X [e] ta) (hk : PK X [⟨some "start", k, kpos⟩] tk)
    (hpl : ((backTo pos (starEach [e] X.env)).any (·.1) || (backToKw pos (keywordEach [⟨some "start", k, kpos⟩] X.env)).any (·.1.isNone)) = false := by rfl) (he : starEach [e] X.env = (false, eval e X.env) :: starEach [] X.env := by rfl) :
    PI X (.Tuple elts kk tpos) (.Call (.Name "enumerate" p) [e] [⟨some "start", k, kpos⟩] pos) (iEnumS (IteL X.K) (SqL X.K) ta tk) := by
  refine ⟨fun pins s σ H R I h => ?_⟩
  refine wpAny_Call_Name_kw (ld_blt I hg hm boot_enumerate (callWith_tyK rfl (thn (ha.run pos pins s σ H _ I h) fun us s0 ⟨vs, H0, I0, r0, q0⟩ => thn (hk.run pos pins s0 σ H0 _ I0 q0) fun ks s1 ⟨ws, H1, I1, r1, a, c, xs, ex, ew, c0, c1, hq, q⟩ => ?_) hpl he))
  subst ex ew
  obtain rfl := Vals.ref1 r0
  obtain ⟨u, rfl, ru⟩ := vals1 r1
  obtain ⟨t, rfl⟩ := ru
  obtain ⟨its, rv, tp, hz⟩ := I1.list hq
  have isT : s1.heap.IsList a its.toArray := tp.isList
  have al : a < s1.heap.objs.size := by
    obtain ⟨o, e1, _⟩ := isT
    exact Heap.lt_size e1
  refine enum_begins_start (begins_list a its.toArray) isT c0 c1 fun h' he hit hsz hk => wpAny_pyIter_enum he ?_
  have I2 : Inv X pins σ H1 { s1 with heap := h' } := I1.kept (t' := s1.toks) hk
  refine ⟨s1.heap.objs.size + 1, [s1.heap.objs.size + 1, s1.heap.objs.size], _, _, H1, rfl, I2, turn_enumL a (s1.heap.objs.size + 1) s1.heap.objs.size c (Nat.ne_of_lt al), ⟨⟨.none, by simpa using he⟩, ⟨_, hit, rfl, rfl⟩, Nat.succ_ne_self _, Nat.ne_of_lt (Nat.lt_succ_of_lt al)⟩, fun b hb => ?_, q⟩
  have hle : s1.heap.objs.size ≤ b := by
    rcases (show b = s1.heap.objs.size + 1 ∨ b = s1.heap.objs.size by simpa using hb) with z | z
    · rw [z]; exact Nat.le_add_right _ _
    · rw [z]; exact Nat.le_refl _
  exact I1.fpOk hle (I1.hok.fresh hle)
theorem pi_enumTSK {X : Cx} {K : PySem.W.Frag} {e k : Expr} {ta tk : TA} {p pos tpos kpos : Pos} {elts : List Expr} {kk : Nat} (hK : X.K = K) (hg : Gl X "enumerate") (hm : X.mg "enumerate" = none) (ha : PA X [e] ta) (hk : PK X [⟨some "start", k, kpos⟩] tk)
    (hpl : ((backTo pos (starEach [e] X.env)).any (·.1) || (backToKw pos (keywordEach [⟨some "start", k, kpos⟩] X.env)).any (·.1.isNone)) = false := by rfl) (he : starEach [e] X.env = (false, eval e X.env) :: starEach [] X.env := by rfl) :
    PI X (.Tuple elts kk tpos) (.Call (.Name "enumerate" p) [e] [⟨some "start", k, kpos⟩] pos) (iEnumS (IteT K) (SqT K) ta tk) := hK ▸ pi_enumTS hg hm ha hk hpl he
theorem pi_enumLSK {X : Cx} {K : PySem.W.Frag} {e k : Expr} {ta tk : TA} {p pos tpos kpos : Pos} {elts : List Expr} {kk : Nat} (hK : X.K = K) (hg : Gl X "enumerate") (hm : X.mg "enumerate" = none) (ha : PA X [e] ta) (hk : PK X [⟨some "start", k, kpos⟩] tk)
    (hpl : ((backTo pos (starEach [e] X.env)).any (·.1) || (backToKw pos (keywordEach [⟨some "start", k, kpos⟩] X.env)).any (·.1.isNone)) = false := by rfl) (he : starEach [e] X.env = (false, eval e X.env) :: starEach [] X.env := by rfl) :
    PI X (.Tuple elts kk tpos) (.Call (.Name "enumerate" p) [e] [⟨some "start", k, kpos⟩] pos) (iEnumS (IteL K) (SqL K) ta tk) := hK ▸ pi_enumLS hg hm ha hk hpl he
end Eyes

set_option Elab.async false
set_option linter.all false
set_option maxRecDepth 100000
set_option maxHeartbeats 4000000
namespace Eyes
open PySem PySem.Spec PyProof.Rows L2 Evl TL
theorem it_byW {J : It} {n : Nat} {G : Hp → Prop} {Y : Nat → Hp → V → Hp → Prop} (w : Walk J n G Y) {Qd : Hp → Prop} {B : V → Hp → (Hp → Prop) → Prop} {H0 : Hp} (Pv : Nat → Hp → Prop) (h0 : Pv 0 H0) (hG : ∀ i H, i ≤ n → Pv i H → G H)
    (hs : ∀ i x H H', i < n → Pv i H → Y i H x H' → B x H' (Pv (i + 1))) (hd : ∀ H, Pv n H → Qd H) :
    ∃ W : Nat → Nat → Hp → Prop, (∃ m, W 0 m H0) ∧ ∀ i m H, W i m H →
      (J.stop i H ∧ Qd H) ∨ (J.go i H ∧ ∃ Nx : Hp → Prop, (∀ H', Nx H' → ∃ m', m' < m ∧ W (i + 1) m' H') ∧ ∀ x H', J.yld i H x H' → B x H' Nx) := by
  refine ⟨fun i m H => m = n - i ∧ i ≤ n ∧ Pv i H, ⟨n, by simp, Nat.zero_le _, h0⟩, ?_⟩
  rintro i m H ⟨rfl, hi, p⟩
  have g := hG i H hi p
  by_cases hlt : i < n
  · exact .inr ⟨w.goes i H hlt g, Pv (i + 1), fun H' p' => ⟨n - (i + 1), by omega, rfl, hlt, p'⟩, fun x H' y => hs i x H H' hlt p (w.yields i H x H' hlt g y)⟩
  · have e : i = n := by omega
    subst e
    exact .inl ⟨w.stops H g, hd H p⟩
def less (n : Nat) (p : List Nat) : List (Nat × Nat) := (numd n p).filter fun xy => decide (xy.2 < xy.1)
def Pts (K : PySem.W.Frag) (n : Nat) (H : Hp) (us : List V) (ps : List (List Nat)) : Prop := us.length = ps.length ∧ ∀ (i : Nat) u, us[i]? = some u → ∃ q p, u = .ref q ∧ ps[i]? = some p ∧ SqT K H q (nvs p) ∧ IsP n p
def spJoined (K : PySem.W.Frag) : Sp := fun vs H Q _ => ∃ (n : Nat) (a : Addr) (us : List V) (ps : List (List Nat)), vs = [.ref a] ∧ n ≤ 4096 ∧ ps.length ≤ 200 ∧ 0 < ps.length ∧ SqL K H a us ∧ Pts K n H us ps ∧ ∀ r H', Ex H H' → H r = none → H' r = some (.tup (nvs (mrgs (alone n) (ps.flatMap (less n))))) → Q (.ref r) H'
theorem numd_get {n k : Nat} {p : List Nat} (h : k < n) : (numd n p)[k]? = some (k + 1, itm p (k + 1)) := by
  unfold numd
  rw [List.getElem?_map, List.getElem?_range h]
  rfl
theorem numd_len {n : Nat} {p : List Nat} : (numd n p).length = n := by
  unfold numd
  rw [List.length_map, List.length_range]
theorem less_len {n : Nat} {p : List Nat} {i : Nat} : (((numd n p).take i).filter fun xy => decide (xy.2 < xy.1)).length ≤ n := by
  refine Nat.le_trans (List.length_filter_le ..) ?_
  rw [List.length_take, numd_len]
  exact Nat.min_le_right ..
theorem less_in {n : Nat} {p : List Nat} (h : IsP n p) : inN n (less n p) := fun xy hxy => numd_in h xy (List.mem_filter.mp hxy).1
section
variable {P : Program} {w : World} {K : PySem.W.Frag} {mg : Str → Option Value} {base : Heap} {AA : Adr}
theorem ok_joined (T : Txt K mg AA) : Pr P w K mg base "joined" s_joined p_joined 2 (spJoined K) := by
  refine pr_mk T.f_joined sc_joined (fun vs H Q E h => ?_) (fun f cdv A outer s H vs Q E hr h => ?_)
  · obtain ⟨n, a, us, ps, rfl, _⟩ := h
    rfl
  · obtain ⟨n, a, us, ps, rfl, hn, hp200, hp0, ha, hps, qq⟩ := h
    refine ⟨_, (pss_cons (ps_setLc2 (i := 1) (own := [("parting", 2), ("case", 3), ("item", 4)]) (vs1 := [3, 4]) (g := gName 2) (tt := tYes) (g1 := gTup K 2 (gCons (gName 3) (gCons (gName 4) gNil))) rfl sc_joined.nd rfl rfl (sw_true rfl rfl rfl (by decide +kernel)) (pi_list (pv 0)) (blkOk_by (own := [("parting", 2), ("case", 3), ("item", 4)]) (N := n_joined) (sc := defScope s_joined) (by decide +kernel)) (by decide) (fun _ _ _ _ _ => (pg_name (i := 2) sc_joined.nd rfl (.inl rfl))) (fun _ _ _ _ _ => pts_nil) (fun _ _ _ _ _ => (pi_enumTSK (K := K) rfl (by rfl) T.n_enumerate (pa_cons (pv 2) pa_nil) (pk_cons pe_int pk_nil))) (fun _ _ _ _ _ => (pg_tup (by rfl) (pgs_cons (pg_name (i := 3) sc_joined.nd rfl (.inl rfl)) (pgs_cons (pg_name (i := 4) sc_joined.nd rfl (.inl rfl)) pgs_nil)))) (fun _ _ _ _ _ => (pts_one (pt_cmpR op_lt (pv 4) (pv 3) (nomark _)))) (fun _ _ _ _ _ => (pe_tup (pa_cons (pv 3) (pa_cons (pv 4) pa_nil)))))
      (pss_one (ps_ret (pcall (ok_linked T) hr (pa_cons (pe_callB call_len (by rfl) T.n_len PySem.boot_len (pa_cons (pe_ix (ix_listK (K := K) rfl) (pv 0) pe_int (fun _ _ => rfl)) pa_nil)) (pa_cons (pv 1) pa_nil)))))), ?_⟩
    have hflen : ∀ i : Nat, ((ps.take i).flatMap (less n)).length ≤ i * n := fun i => by
      have h1 : ∀ l : List (List Nat), (l.flatMap (less n)).length ≤ l.length * n := fun l => by
        induction l with
        | nil => exact Nat.zero_le _
        | cons p l ih =>
          rw [List.flatMap_cons, List.length_append, List.length_cons, Nat.succ_mul]
          have : (less n p).length ≤ n := Nat.le_trans (List.length_filter_le ..) (by rw [numd_len]; exact Nat.le_refl _)
          omega
      refine Nat.le_trans (h1 _) (Nat.mul_le_mul_right _ ?_)
      rw [List.length_take]
      exact Nat.min_le_left ..
    refine ⟨_, rfl, a, rfl, ⟨us, ha⟩, fun D hD => it_byW (walk_list (xs := us)) (fun i H' => H D = none ∧ Ex H H' ∧ ∃ ws, H' D = some (.lst ws) ∧ Prh H' ws ((ps.take i).flatMap (less n))) ⟨hD, Ex.new hD, [], upd_same, rfl, fun i v hv => by cases hv⟩ (fun _ _ _ hp => ex_l hp.2.1 ha) (fun i v H3 H4 hi hp hy => ?_) (fun H' hp => ?_)⟩
    · obtain ⟨rfl, hv⟩ := hy
      obtain ⟨h1, h2, ws, h3, h4⟩ := hp
      obtain ⟨qa, p, rfl, hpi, hqa, hP⟩ := hps.2 i v hv
      refine ⟨rfl, _, rfl, qa, 1, _, rfl, rfl, by decide, by decide, ex_t h2 hqa, ?_⟩
      refine it_byW (walk_enumT (xs := nvs p)) (fun j H' => Ex H H' ∧ ∃ ws, H' D = some (.lst ws) ∧ Prh H' ws ((ps.take i).flatMap (less n) ++ ((numd n p).take j).filter fun xy => decide (xy.2 < xy.1))) ⟨h2, ws, h3, ?_⟩ (fun _ _ _ hq => ex_t hq.1 hqa) (fun j u H6 H7 hj hq hy6 => ?_) (fun H' hq => ?_)
      · rw [List.take_zero, List.filter_nil, List.append_nil]
        exact h4
      · obtain ⟨e6, ws6, h6, h7⟩ := hq
        obtain ⟨T1, u1, u2, rfl, hT, rfl, g1, g2⟩ := hy6
        rw [nvs_len, hP.len] at hj
        obtain rfl : u2 = .int (itm p (j + 1) : Nat) := Option.some.inj (g2.symm.trans (nvs_get (itm_get (x := j + 1) (by omega) (by rw [hP.len]; omega))))
        obtain rfl : V.int (1 + (j : Int)) = u1 := Option.some.inj g1
        have e7 : Ex H6 (upd H6 T1 (.tup [.int (1 + (j : Int)), .int (itm p (j + 1) : Nat)])) := Ex.new hT
        have htk : (numd n p).take (j + 1) = (numd n p).take j ++ [(j + 1, itm p (j + 1))] := by
          rw [List.take_add_one, numd_get hj]
          rfl
        refine ⟨T1, _, rfl, st_of upd_same, rfl, _, _, rfl, _, _, rfl, rfl, rfl, _, rfl, _, rfl, _, _, rfl, rfl, _, rfl, ite2 (fun hlt => ?_) (fun hlt => ?_)⟩
        · have hlt : itm p (j + 1) < j + 1 := by
            have := of_decide_eq_true hlt
            omega
          refine ⟨_, rfl, _, rfl, by show 2 ≤ sizeLine; decide, fun t nt => ?_⟩
          have e8 := e7.trans (Ex.new (o := .tup [.int (1 + (j : Int)), .int (itm p (j + 1) : Nat)]) nt)
          refine ⟨_, e8 _ _ h6, ?_, (e6.trans e8).mut h1, _, upd_same, ?_⟩
          · rw [h7.1, List.length_append]
            have a1 := hflen i
            have a2 := less_len (n := n) (p := p) (i := j)
            have a3 : i < ps.length := by rw [← hps.1]; exact hi
            have a4 : i * n ≤ 200 * 4096 := Nat.mul_le_mul (by omega) hn
            have : 200 * 4096 + 4096 < sizeLine := by decide
            omega
          · refine Prh.put (xs := ws6) ?_ (e8 _ _ h6)
            rw [htk, List.filter_append, ← List.append_assoc, show ([(j + 1, itm p (j + 1))].filter fun xy => decide (xy.2 < xy.1)) = [(j + 1, itm p (j + 1))] by simp [hlt]]
            refine (h7.ex e8).snoc ?_
            rw [upd_same]
            have : (1 + (j : Int)) = ((j + 1 : Nat) : Int) := by omega
            rw [this]
        · have hlt : ¬ itm p (j + 1) < j + 1 := fun z => hlt (decide_eq_true (by omega))
          refine ⟨e6.trans e7, _, e7 _ _ h6, ?_⟩
          rw [htk, List.filter_append, show ([(j + 1, itm p (j + 1))].filter fun xy => decide (xy.2 < xy.1)) = [] by simp; omega, List.append_nil]
          exact h7.ex e7
      · obtain ⟨e6, ws6, h6, h7⟩ := hq
        rw [nvs_len, hP.len, List.take_of_length_le (l := numd n p) (by rw [numd_len]; exact Nat.le_refl _)] at h7
        refine ⟨h1, e6, ws6, h6, ?_⟩
        rw [List.take_add_one, hpi, List.flatMap_append]
        show Prh H' ws6 (_ ++ [p].flatMap (less n))
        rw [List.flatMap_cons, List.flatMap_nil, List.append_nil]
        exact h7
    · obtain ⟨h1, h2, ws, h3, h4⟩ := hp
      rw [List.take_of_length_le (by rw [hps.1]; exact Nat.le_refl _)] at h4
      have hu0 : us[0]? = some (us[0]'(by rw [hps.1]; exact hp0)) := List.getElem?_eq_getElem _
      obtain ⟨q0, p0, eq0, hp0', hq0, hP0⟩ := hps.2 0 _ hu0
      rw [eq0] at hu0
      have hin : inN n (ps.flatMap (less n)) := fun xy hxy => by
        obtain ⟨p, hp, hxy⟩ := List.mem_flatMap.mp hxy
        obtain ⟨i, hi⟩ := List.getElem?_of_mem hp
        obtain ⟨q, p2, _, g, _, hP⟩ := hps.2 i _ (List.getElem?_eq_getElem (by rw [hps.1]; exact (List.getElem?_eq_some_iff.mp hi).1))
        rw [g] at hi
        obtain rfl := Option.some.inj hi
        exact less_in hP xy hxy
      refine ⟨_, rfl, a, _, 0, _, rfl, rfl, ex_l h2 ha, atI_nat (j := 0) hu0, _, n, rfl, .inr ⟨_, ex_t h2 hq0, by rw [nvs_len, hP0.len]⟩, _, rfl, ?_⟩
      exact ⟨n, D, ws, ps.flatMap (less n), rfl, hn, .inl (sq_of h3), h4.to, hin, fun r H5 e5 n5 h5 => qq r H5 (h2.trans e5) (fresh_back h2 n5) h5⟩
end
end Eyes

set_option Elab.async false
set_option linter.all false
set_option maxRecDepth 100000
set_option maxHeartbeats 4000000
namespace Eyes
open PySem PySem.Spec PyProof.Rows L2 Evl TL
def numD (d : PyData) (a b : Int) : Bool := match d with
  | .int i => decide (a ≤ i) && decide (i ≤ b)
  | _ => false
def spNumber (K : PySem.W.Frag) : Sp := fun vs H Q _ => ∃ (v : V) (d : PyData) (a b : Int), vs = [v, .int a, .int b] ∧ Rep H v d ∧ Q (.bl (numD d a b)) H
section
variable {P : Program} {w : World} {K : PySem.W.Frag} {mg : Str → Option Value} {base : Heap} {AA : Adr}
theorem ok_is_number (T : Txt K mg AA) : Pr P w K mg base "is_number" s_is_number p_is_number 1 (spNumber K) := by
  refine pr_mk T.f_is_number sc_is_number (fun vs H Q E h => ?_) (fun f cdv A outer s H vs Q E hr h => ?_)
  · obtain ⟨v, d, a, b, rfl, _⟩ := h
    rfl
  · obtain ⟨v, d, a, b, rfl, hv, q⟩ := h
    refine ⟨_, (pss_cons (ps_if (PW.pt (pw_or (pt_val (pe_callB (call_isiK (K := K) rfl) (by rfl) T.n_isinstance PyProof.Rows.boot_isinstance (pa_cons (pv 0) (pa_cons (pe_bltn (v := .ty "bool") (by rfl) T.n_bool (by decide +kernel) rfl) pa_nil)))) (pw_or1 (pt_not (pt_val (pe_callB (call_isiK (K := K) rfl) (by rfl) T.n_isinstance PyProof.Rows.boot_isinstance (pa_cons (pv 0) (pa_cons (pe_bltn (v := .ty "int") (by rfl) T.n_int (by decide +kernel) rfl) pa_nil))))))))
      (pss_one (ps_ret pe_bl))
      pss_nil)
      (pss_one (ps_ret (pe_chain op_le op_le (pv 1) (pv 0) (pv 2))))), ?_⟩
    have no : ∀ kb ki : Bool, PySem.W.kitOne K (.type (tyD d)) (.type "bool") = some kb → PySem.W.kitOne K (.type (tyD d)) (.type "int") = some ki → (kb = true ∨ ki = false) → numD d a b = false → (tSeq
    (tIfS
      (tOr (tB (tCB (rIsi K) (tCons (tVar 0) (tCons (tC (V.ty "bool")) tNil))))
        (tNot (tB (tCB (rIsi K) (tCons (tVar 0) (tCons (tC (V.ty "int")) tNil))))))
      (tRet (tC (V.bl false))) tNext)
    (tRet
      (tChain (rI0 fun i j => V.bl (decide (i ≤ j))) (rI0 fun i j => V.bl (decide (i ≤ j))) (tVar 1) (tVar 0) (tVar 2)))
    { nx := fun x H' => Q V.non H', rt := Q } (L2.start n_is_number [v, V.int a, V.int b]) H) := fun kb ki h1 h2 h3 h4 => by
      rw [h4] at q
      cases kb with
      | true => exact ⟨_, rfl, v, .ty "bool", _, _, true, rfl, .ty _, hv.ty, h1, _, rfl, iteT (iteT q)⟩
      | false =>
        cases ki with
        | true => rcases h3 with h3 | h3 <;> cases h3
        | false => exact ⟨_, rfl, v, .ty "bool", _, _, false, rfl, .ty _, hv.ty, h1, _, rfl, iteF ⟨_, rfl, v, .ty "int", _, _, false, rfl, .ty _, hv.ty, h2, _, rfl, iteT q⟩⟩
    cases d with
    | int i =>
      cases hv
      refine ⟨_, rfl, .int i, .ty "bool", _, _, false, rfl, .ty _, (Rep.int (H := H) i).ty, kit_ty (a := "int") (by decide +kernel), _, rfl, iteF ⟨_, rfl, .int i, .ty "int", _, _, true, rfl, .ty _, (Rep.int (H := H) i).ty, kit_ty (a := "int") (by decide +kernel), _, rfl, iteF ?_⟩⟩
      have q : Q (V.bl (decide (a ≤ i) && decide (i ≤ b))) H := q
      refine ⟨_, rfl, _, rfl, a, i, rfl, rfl, _, rfl, ite2 (fun h1 => ?_) (fun h1 => ?_)⟩
      · rw [h1] at q
        exact ⟨_, rfl, i, b, rfl, rfl, q⟩
      · rw [show decide (a ≤ i) = false by cases e : decide (a ≤ i) with | true => exact absurd e h1 | false => rfl] at q
        exact q
    | none => exact no false false (kit_ty (a := "NoneType") (by decide +kernel)) (kit_ty (a := "NoneType") (by decide +kernel)) (.inr rfl) rfl
    | bool z => exact no true true (kit_ty (a := "bool") (by decide +kernel)) (kit_ty (a := "bool") (by decide +kernel)) (.inl rfl) rfl
    | str z => exact no false false (kit_ty (a := "str") (by decide +kernel)) (kit_ty (a := "str") (by decide +kernel)) (.inr rfl) rfl
    | list z => exact no false false (kit_ty (a := "list") (by decide +kernel)) (kit_ty (a := "list") (by decide +kernel)) (.inr rfl) rfl
    | tuple z => exact no false false (kit_ty (a := "tuple") (by decide +kernel)) (kit_ty (a := "tuple") (by decide +kernel)) (.inr rfl) rfl
    | dict z => exact no false false (kit_ty (a := "dict") (by decide +kernel)) (kit_ty (a := "dict") (by decide +kernel)) (.inr rfl) rfl
def itemD (ds : List PyData) (k : Nat) : Bool := match ds[k]? with
  | some d => numD d 1 ((k : Int) + 1) && (match d with
    | .int i => (match ds[(i - 1).toNat]? with
      | some e => PyData.eqv e (.int i)
      | none => false)
    | _ => false)
  | none => false
theorem itemD_no {ds : List PyData} {k : Nat} {d : PyData} (h : ds[k]? = some d) (h2 : numD d 1 ((k : Int) + 1) = false) : itemD ds k = false := by
  unfold itemD
  rw [h]
  show (numD d 1 ((k : Int) + 1) && _) = false
  rw [h2, Bool.false_and]
theorem itemD_int {ds : List PyData} {k : Nat} {i : Int} {e : PyData} (h : ds[k]? = some (.int i)) (h2 : numD (.int i) 1 ((k : Int) + 1) = true) (h3 : ds[(i - 1).toNat]? = some e) : itemD ds k = PyData.eqv e (.int i) := by
  unfold itemD
  rw [h]
  show (numD (.int i) 1 ((k : Int) + 1) && (match ds[(i - 1).toNat]? with
      | some e => PyData.eqv e (.int i)
      | none => false)) = _
  rw [h2, Bool.true_and, h3]
def spItem (K : PySem.W.Frag) : Sp := fun vs H Q _ => ∃ (a : Addr) (xs : List V) (ds : List PyData) (k : Nat), vs = [.ref a, .int k] ∧ SqT K H a xs ∧ Reps H xs ds ∧ (∀ d ∈ ds, SeqAt.shaped d = true) ∧ k < xs.length ∧ Q (.bl (itemD ds k)) H
theorem ok_is_item (T : Txt K mg AA) : Pr P w K mg base "is_item" s_is_item p_is_item 2 (spItem K) := by
  refine pr_mk T.f_is_item sc_is_item (fun vs H Q E h => ?_) (fun f cdv A outer s H vs Q E hr h => ?_)
  · obtain ⟨a, xs, ds, k, rfl, _⟩ := h
    rfl
  · obtain ⟨a, xs, ds, k, rfl, ha, hR, hsh, hk, q⟩ := h
    refine ⟨_, (pss_one (ps_ret (pe_and (pcall (ok_is_number T) hr (pa_cons (pe_ix (ix_tupK (K := K) rfl) (pv 0) (pv 1) (fun _ _ => rfl)) (pa_cons pe_int (pa_cons (pe_op op_add (pv 1) pe_int) pa_nil)))) (pe_one (pe_cmpR (op_eqD hr.units) (pe_ix (ix_tupK (K := K) rfl) (pv 0) (pe_op op_sub (pe_ix (ix_tupK (K := K) rfl) (pv 0) (pv 1) (fun _ _ => rfl)) pe_int) (fun _ _ => rfl)) (pe_ix (ix_tupK (K := K) rfl) (pv 0) (pv 1) (fun _ _ => rfl)) (nomark _)))))), ?_⟩
    obtain ⟨d, hd, hv⟩ := hR.get (List.getElem?_eq_getElem hk)
    have hx : xs[k]? = some xs[k] := List.getElem?_eq_getElem hk
    generalize xs[k] = v at hv hx
    refine ⟨_, rfl, _, rfl, a, _, _, v, rfl, rfl, ha, atI_nat hx, _, rfl, k, 1, rfl, rfl, v, d, 1, (k : Int) + 1, rfl, hv, ?_⟩
    cases hn : numD d 1 ((k : Int) + 1) with
    | false =>
      rw [itemD_no hd hn] at q
      exact ⟨_, rfl, iteF q⟩
    | true =>
      cases d with
      | int i =>
        cases hv
        have hi : 1 ≤ i ∧ i ≤ (k : Int) + 1 := by
          have h : (decide (1 ≤ i) && decide (i ≤ (k : Int) + 1)) = true := hn
          rw [Bool.and_eq_true] at h
          exact ⟨of_decide_eq_true h.1, of_decide_eq_true h.2⟩
        have hj : (i - 1).toNat < xs.length := by omega
        obtain ⟨e, he, hve⟩ := hR.get (List.getElem?_eq_getElem hj)
        have hxe : xs[(i - 1).toNat]? = some xs[(i - 1).toNat] := List.getElem?_eq_getElem hj
        generalize xs[(i - 1).toNat] = v2 at hve hxe
        rw [itemD_int hd hn he] at q
        refine ⟨_, rfl, iteT ?_⟩
        refine ⟨_, rfl, _, rfl, _, rfl, a, _, _, .int i, rfl, rfl, ha, atI_nat hx, i, 1, rfl, rfl, a, _, _, v2, rfl, rfl, ha, at_of' (by omega) hxe, _, rfl, _, rfl, a, _, _, .int i, rfl, rfl, ha, atI_nat hx, ?_⟩
        exact ⟨e, .int i, hve.dp, .int i, hsh e (List.mem_of_getElem? he), rfl, q⟩
      | _ => cases hn
def partD (d : PyData) : Bool := match d with
  | .tuple ds => decide (ds ≠ []) && (List.range ds.length).all fun k => itemD ds k
  | _ => false
def spIsPart (K : PySem.W.Frag) : Sp := fun vs H Q _ => ∃ (v : V) (d : PyData), vs = [v] ∧ Rep H v d ∧ (∀ ds, d = .tuple ds → ds.length ≤ 4096 ∧ ∀ e ∈ ds, SeqAt.shaped e = true) ∧ ∀ H', Ex H H' → Q (.bl (partD d)) H'
theorem ok_is_parting (T : Txt K mg AA) : Pr P w K mg base "is_parting" s_is_parting p_is_parting 3 (spIsPart K) := by
  refine pr_mk T.f_is_parting sc_is_parting (fun vs H Q E h => ?_) (fun f cdv A outer s H vs Q E hr h => ?_)
  · obtain ⟨v, d, rfl, _⟩ := h
    rfl
  · obtain ⟨v, d, rfl, hv, hd, q⟩ := h
    refine ⟨_, (pss_cons (ps_if (PW.pt (pw_or (pt_not (pt_val (pe_callB (call_isiK (K := K) rfl) (by rfl) T.n_isinstance PyProof.Rows.boot_isinstance (pa_cons (pv 0) (pa_cons (pe_bltn (v := .ty "tuple") (by rfl) T.n_tuple (by decide +kernel) rfl) pa_nil))))) (pw_or1 (pt_cmpR op_eq (pe_callB (call_len_seqK (K := K) rfl) (by rfl) T.n_len PySem.boot_len (pa_cons (pv 0) pa_nil)) pe_int (nomark _)))))
      (pss_one (ps_ret pe_bl))
      pss_nil)
      (pss_one (ps_ret (pe_callB (cr_all rfl) (by rfl) T.n_all PyProof.Rows.boot_all (pa_cons (pe_lc (own := [("at", 1)]) (g := gName 1) (tt := tYes) rfl sc_is_parting.nd (pi_range1 (by rfl) T.n_range (pa_cons (pe_callB (call_len_seqK (K := K) rfl) (by rfl) T.n_len PySem.boot_len (pa_cons (pv 0) pa_nil)) pa_nil)) (blkOk_by (own := [("at", 1)]) (N := n_is_parting) (sc := defScope s_is_parting) (by decide +kernel)) (fun _ _ _ _ _ => (pg_name (i := 1) sc_is_parting.nd rfl (.inl rfl))) (fun _ _ _ _ _ => pts_nil) (fun _ _ _ _ _ => (pcall (ok_is_item T) hr (pa_cons (pv 0) (pa_cons (pv 1) pa_nil))))) pa_nil))))), ?_⟩
    have no : PySem.W.kitOne K (.type (tyD d)) (.type "tuple") = some false → partD d = false → (tSeq
    (tIfS
      (tOr (tNot (tB (tCB (rIsi K) (tCons (tVar 0) (tCons (tC (V.ty "tuple")) tNil)))))
        (tTest
          (tOp rEq
            (tCB (fun xs H Q => ∃ p ys, xs = [V.ref p] ∧ (SqL K H p ys ∨ SqT K H p ys) ∧ Q (V.int ↑ys.length) H)
              (tCons (tVar 0) tNil))
            (tC (V.int 0)))))
      (tRet (tC (V.bl false))) tNext)
    (tRet
      (tCB
        (rAll K)
        (tCons
          (tLc
            (iRng1
              (tCons
                (tCB (fun xs H Q => ∃ p ys, xs = [V.ref p] ∧ (SqL K H p ys ∨ SqT K H p ys) ∧ Q (V.int ↑ys.length) H)
                  (tCons (tVar 0) tNil))
                tNil))
            (gName 1) tYes (tCall (spItem K) [] (fun x x_1 x_2 => False) (tCons (tVar 0) (tCons (tVar 1) tNil)))
            (List.map (fun x => x.snd) [(Str.ofString "at", 1)]))
          tNil)))
    { nx := fun x H' => Q V.non H', rt := Q } (L2.start n_is_parting [v]) H) := fun h1 h2 => by
      have q := q H (Ex.refl _)
      rw [h2] at q
      exact ⟨_, rfl, v, .ty "tuple", _, _, false, rfl, .ty _, hv.ty, h1, _, rfl, iteT (iteT q)⟩
    cases d with
    | tuple ds =>
      obtain ⟨hl, hsh⟩ := hd ds rfl
      cases hv with
      | @tup a xs _ hx hR =>
      have hlen := hR.length
      refine ⟨_, rfl, .ref a, .ty "tuple", _, _, true, rfl, .ty _, (Rep.tup hx hR).ty, kit_ty (a := "tuple") (by decide +kernel), _, rfl, iteF ?_⟩
      refine ⟨_, rfl, a, xs, rfl, .inr (st_of hx), rfl, _, rfl, ite2 (fun h0 => ?_) (fun h0 => ?_)⟩
      · have q := q H (Ex.refl _)
        have h1 : V.int (xs.length : Int) = V.int 0 := of_decide_eq_true h0
        injection h1 with h1
        have h2 : ds = [] := List.length_eq_zero_iff.mp (by omega)
        rw [h2] at q
        exact q
      · have h2 : ds ≠ [] := fun z => h0 (by
          rw [z] at hlen
          rw [hlen]
          rfl)
        refine ⟨_, rfl, a, xs, rfl, .inr (st_of hx), _, rfl, by omega, by omega, ?_⟩
        rw [show ((xs.length : Nat) : Int).toNat = xs.length by omega]
        refine fun D hD => lc_it walk_range (fun i H' => H D = none ∧ Ex H H' ∧ H' D = some (.lst (((List.range i).map fun k => itemD ds k).map V.bl))) ⟨hD, Ex.new hD, upd_same⟩ (fun _ _ _ _ => trivial) (fun i v H3 H4 hi hp hy => ?_) (fun H' hp => ?_)
        · obtain ⟨h1, h4, h3⟩ := hp
          obtain ⟨rfl, rfl⟩ := hy
          refine ⟨rfl, _, rfl, _, rfl, a, xs, ds, i, ?_, st_of (h4 _ _ hx), hR.mono h4, hsh, hi, _, h3, ?_, h1, h4.mut h1, ?_⟩
          · show [V.ref a, V.int (0 + (i : Int))] ++ [] = _
            rw [Int.zero_add]
            rfl
          · rw [List.length_map, List.length_map, List.length_range]
            have : 4097 < sizeLine := by decide
            omega
          · rw [upd_same, List.range_succ, List.map_append, List.map_append]
            rfl
        · obtain ⟨h1, h4, h3⟩ := hp
          refine ⟨D, _, rfl, sq_of h3, ?_⟩
          rw [all_take]
          have q := q _ h4
          rw [show partD (.tuple ds) = (List.range xs.length).all fun k => itemD ds k by
            show (decide (ds ≠ []) && _) = _
            rw [decide_eq_true h2, Bool.true_and, hlen]] at q
          exact q
    | none => exact no (kit_ty (a := "NoneType") (by decide +kernel)) rfl
    | bool z => exact no (kit_ty (a := "bool") (by decide +kernel)) rfl
    | int z => exact no (kit_ty (a := "int") (by decide +kernel)) rfl
    | str z => exact no (kit_ty (a := "str") (by decide +kernel)) rfl
    | list z => exact no (kit_ty (a := "list") (by decide +kernel)) rfl
    | dict z => exact no (kit_ty (a := "dict") (by decide +kernel)) rfl
end
end Eyes

set_option Elab.async false
set_option linter.all false
set_option maxRecDepth 100000
set_option maxHeartbeats 4000000
/-! d.setdefault(key, v), the key a tuple; {} of either kind. -/
namespace Eyes
open PySem PySem.Spec PyProof.Rows L2
section
variable {X : Cx} {pins : List (Addr × Obj)} {σ : L2.St} {H : Hp} {s : Shared} {a b : Addr} {r : Value} {d : V} {k : List L2.Key} {A : Around} {E : Value → Shared → Prop}
theorem d_setdT {kvs : List (List L2.Key × V)} {Q : Value → Shared → Prop} (hu : A.units + 1 < cLine) (I : Inv X pins σ H s) (e : H a = some (.dT kvs)) (eb : H b = some (.tup (k.map kV))) (rd : RelV d r) (hl : kvs.length < sizeLine)
    (h1 : ∀ v, valV kvs k = some v → ∀ (w' : Value) (s' : Shared), Inv X pins σ H s' → RelV v w' → Q w' s') (h2 : valV kvs k = none → ∀ (w' : Value) (s' : Shared), Inv X pins σ (upd H a (.dT (putK kvs k d))) s' → RelV d w' → Q w' s') :
    wpAny (model X.prog X.w) A (call (.builtin "dict.setdefault") [.ref a, .ref b, r]) Q E s := by
  obtain ⟨z, hd, xs, rel, dd⟩ := dt_of I.hok e
  have hz : xs.length ≤ sizeLine := by rw [← Paired.length rel]; exact z
  refine call_setdefault_heap (knd := tupleKind (mixKind X.prog X.w)) (tupleKind_room_in1 hu) (key_of I.hok eb) hd dd (fun p hp => ?_) (fun hn h' dd' hs => ?_) hz
  · have q := rel.val k
    rw [hp] at q
    cases q0 : valV kvs k with
    | none =>
      rw [q0] at q
      exact (show False from q).elim
    | some v0 =>
      rw [q0] at q
      exact h1 v0 q0 _ _ (I.kept (t' := _) fun _ _ z => z) q
  · have q := rel.val k
    rw [hn] at q
    cases q0 : valV kvs k with
    | some v0 =>
      rw [q0] at q
      exact (show False from q).elim
    | none =>
      have hl2 : (putK kvs k d).length ≤ sizeLine := by
        have := length_putK kvs k d
        omega
      obtain ⟨q, es, ep, hq, g2, g3, g4, _, g5⟩ := dd'
      refine h2 q0 _ _ (d_write (t' := _) I (by rw [e]; exact True.intro) hs ⟨q, hq⟩ ⟨hl2, hd, _, (rel.put k eb rd).keeps fun c ys ec => ?_, q, es, ep, hq, g2, g3, g4, g5⟩) rd
      rw [upd_ne (ne_of ec e (fun z => nomatch z))]
      exact ec
end
def SetdR (H : Hp) (a : Addr) (y z : V) (Q : VK) : Prop :=
  (∃ (kvs : List (L2.Key × V)) (k : L2.Key), H a = some (.dK kvs) ∧ y = kV k ∧ kvs.length < sizeLine ∧ (∀ v, valV kvs k = some v → Q v H) ∧ (valV kvs k = none → Q z (upd H a (.dK (putK kvs k z))))) ∨
  ∃ (kvs : List (List L2.Key × V)) (k : List L2.Key) (b : Addr), H a = some (.dT kvs) ∧ y = .ref b ∧ H b = some (.tup (k.map kV)) ∧ kvs.length < sizeLine ∧ (∀ v, valV kvs k = some v → Q v H) ∧ (valV kvs k = none → Q z (upd H a (.dT (putK kvs k z))))
def tDSetdA (td ty tx : TE) : TE := fun σ H Q => td σ H fun x H1 => ∃ a, x = .ref a ∧ IsD H1 a ∧ ty σ H1 fun y H2 => tx σ H2 fun z H3 => SetdR H3 a y z Q
section
variable {X : Cx} {o e f : Expr} {td ty tx : TE} {apos cpos : Pos}
theorem pe_dsetdA (hu : X.A.units + 64 < cLine) (ho : PE X o td) (he : PE X e ty) (hf : PE X f tx) (m : M2 X o "setdefault" apos e f cpos) : PE X (.Call (.Attribute o "setdefault" apos) [e, f] [] cpos) (tDSetdA td ty tx) := by
  refine ⟨fun pins s σ H Q I h => ?_⟩
  refine wpAny_Call_method m.base m.few m.line PySem.F.plainAttrs_dict PySem.F.slot_dict_setdefault PySem.F.type_dict_setdefault (thn (ho.run pins s σ H _ I h) fun u s1 ⟨x, H1, I1, rx, a, ex, d, q1⟩ => ?_)
  subst ex
  obtain rfl : u = Value.ref a := rx
  obtain ⟨t1, t2, _⟩ := isD_at I1 d
  refine ⟨t1, t2, ?_⟩
  rw [m.trees]
  refine Calls.callWith_builtin rfl (Calls.evalArgs_plain (Calls.spliced_cons (thn (he.run pins s1 σ H1 _ I1 q1) fun iv s2 ⟨y, H2, I2, ry, q2⟩ =>
    Calls.spliced_cons (thn (hf.run pins s2 σ H2 _ I2 q2) fun fv s3 ⟨z, H3, I3, rz, q3⟩ => Calls.spliced_nil ?_))))
  rcases q3 with ⟨kvs, k, ea, ey, hl, q3, q4⟩ | ⟨kvs, k, b, ea, ey, eb, hl, q3, q4⟩
  · subst ey
    exact d_setd I3 ea ry rz hl (fun v hv w' s4 I4 rw' => ⟨v, _, I4, rw', q3 v hv⟩) fun hn w' s4 I4 rw' => ⟨z, _, I4, rw', q4 hn⟩
  · subst ey
    cases (show iv = Value.ref b from ry)
    exact d_setdT (by omega) I3 ea eb rz hl (fun v hv w' s4 I4 rw' => ⟨v, _, I4, rw', q3 v hv⟩) fun hn w' s4 I4 rw' => ⟨z, _, I4, rw', q4 hn⟩
def tDNewA : TE := fun _ H Q => (∀ p, H p = none → Q (.ref p) (upd H p (.dK []))) ∨ ∀ p, H p = none → Q (.ref p) (upd H p (.dT []))
end
end Eyes

set_option Elab.async false
set_option linter.all false
set_option maxRecDepth 100000
/-! The parting by keys: each case gets the first case with an equal key. -/
namespace Eyes
open PySem PySem.Spec PyProof.Rows L2
section
variable {α β : Type} [DecidableEq α] [DecidableEq β]
def firsts (ks : List α) : List Nat := ks.map fun k => ks.idxOf k + 1
theorem firsts_len {ks : List α} : (firsts ks).length = ks.length := List.length_map ..
theorem firsts_itm {ks : List α} {x : Nat} {k : α} (h1 : 1 ≤ x) (h : ks[x - 1]? = some k) : itm (firsts ks) x = ks.idxOf k + 1 := by
  unfold itm firsts
  rw [List.getD_eq_getElem?_getD, List.getElem?_map, h]
  rfl
theorem idx_le {ks : List α} {i : Nat} {k : α} (h : ks[i]? = some k) : ks.idxOf k ≤ i := by
  induction ks generalizing i with
  | nil => cases h
  | cons a l ih =>
    rw [List.idxOf_cons]
    by_cases g : a = k
    · rw [show (a == k) = true by simpa using g]
      exact Nat.zero_le _
    · rw [show (a == k) = false by simpa using g]
      cases i with
      | zero => exact absurd (Option.some.inj h) g
      | succ i =>
        have := ih (i := i) h
        simp only [cond_false]
        omega
theorem idx_get {ks : List α} {k : α} (h : k ∈ ks) : ks[ks.idxOf k]? = some k := by
  induction ks with
  | nil => cases h
  | cons a l ih =>
    rw [List.idxOf_cons]
    by_cases g : a = k
    · rw [show (a == k) = true by simpa using g]
      exact congrArg some g
    · rw [show (a == k) = false by simpa using g]
      simp only [cond_false]
      rw [List.getElem?_cons_succ]
      exact ih ((List.mem_cons.mp h).resolve_left fun e => g e.symm)
theorem isP_firsts (ks : List α) : IsP ks.length (firsts ks) := by
  refine ⟨firsts_len, fun x h1 h2 => ?_, fun x h1 h2 => ?_⟩
  · have h : ks[x - 1]? = some (ks[x - 1]'(by omega)) := List.getElem?_eq_getElem _
    rw [firsts_itm h1 h]
    have := idx_le h
    omega
  · have h : ks[x - 1]? = some (ks[x - 1]'(by omega)) := List.getElem?_eq_getElem _
    rw [firsts_itm h1 h]
    refine firsts_itm (by omega) ?_
    rw [Nat.add_sub_cancel]
    exact idx_get (List.mem_of_getElem? h)
end
def keysN (n : Nat) (ps : List (List Nat)) : List (List Nat) := (List.range n).map fun k => ps.map fun p => itm p (k + 1)
def metN (n : Nat) (ps : List (List Nat)) : List Nat := firsts (keysN n ps)
theorem keysN_len {n : Nat} {ps : List (List Nat)} : (keysN n ps).length = n := by
  unfold keysN
  rw [List.length_map, List.length_range]
theorem metN_isP (n : Nat) (ps : List (List Nat)) : IsP n (metN n ps) := by
  have h := isP_firsts (keysN n ps)
  rw [keysN_len] at h
  exact h
end Eyes

set_option Elab.async false
set_option linter.all false
set_option maxRecDepth 100000
set_option maxHeartbeats 4000000
namespace Eyes
open PySem PySem.Spec PyProof.Rows L2 Evl TL
/-! ### by keys -/
section
variable {κ : Type} [DecidableEq κ]
def fstOf (ks : List κ) (k : κ) : Nat := ks.idxOf k + 1
structure Fsts (ks : List κ) (i : Nat) (kvs : List (κ × V)) : Prop where
  len : kvs.length ≤ i
  val : ∀ k, valV kvs k = if k ∈ ks.take i then some (.int ((fstOf ks k : Nat) : Int)) else none
theorem Fsts.zero (ks : List κ) : Fsts ks 0 ([] : List (κ × V)) := ⟨Nat.le_refl _, fun k => by rw [List.take_zero, if_neg (fun h => by cases h)]; rfl⟩
theorem mem_take_succ {ks : List κ} {i : Nat} {k j : κ} (h : ks[i]? = some k) : j ∈ ks.take (i + 1) ↔ j ∈ ks.take i ∨ j = k := by
  rw [List.take_add_one, h, List.mem_append]
  exact or_congr Iff.rfl List.mem_singleton
theorem Fsts.has {ks : List κ} {i : Nat} {kvs : List (κ × V)} {k : κ} {v : V} (F : Fsts ks i kvs) (h : ks[i]? = some k) (hv : valV kvs k = some v) : v = .int ((fstOf ks k : Nat) : Int) ∧ Fsts ks (i + 1) kvs := by
  rw [F.val k] at hv
  by_cases g : k ∈ ks.take i
  · rw [if_pos g] at hv
    refine ⟨(Option.some.inj hv).symm, Nat.le_succ_of_le F.len, fun j => ?_⟩
    rw [F.val j]
    by_cases e : j ∈ ks.take i
    · rw [if_pos e, if_pos ((mem_take_succ h).mpr (.inl e))]
    · rw [if_neg e, if_neg fun z => by
        rcases (mem_take_succ h).mp z with z | z
        · exact e z
        · rw [z] at e
          exact e g]
  · rw [if_neg g] at hv
    cases hv
theorem idx_new {ks : List κ} {i : Nat} {k : κ} (h : ks[i]? = some k) (g : k ∉ ks.take i) : ks.idxOf k = i := by
  have a := idx_le h
  have b := idx_get (List.mem_of_getElem? h)
  rcases Nat.lt_or_ge (ks.idxOf k) i with c | c
  · refine absurd ?_ g
    refine List.mem_of_getElem? (i := ks.idxOf k) ?_
    rw [List.getElem?_take_of_lt c]
    exact b
  · omega
theorem Fsts.new {ks : List κ} {i : Nat} {kvs : List (κ × V)} {k : κ} (F : Fsts ks i kvs) (h : ks[i]? = some k) (hv : valV kvs k = none) : fstOf ks k = i + 1 ∧ Fsts ks (i + 1) (putK kvs k (.int ((i + 1 : Nat) : Int))) := by
  rw [F.val k] at hv
  by_cases g : k ∈ ks.take i
  · rw [if_pos g] at hv
    cases hv
  · have hi : fstOf ks k = i + 1 := congrArg (· + 1) (idx_new h g)
    refine ⟨hi, ?_, fun j => ?_⟩
    · have := length_putK kvs k (.int ((i + 1 : Nat) : Int))
      have := F.len
      omega
    · rw [valV_put, F.val j]
      by_cases e : j = k
      · rw [if_pos e, if_pos ((mem_take_succ h).mpr (.inr e)), e, hi]
      · rw [if_neg e]
        by_cases c : j ∈ ks.take i
        · rw [if_pos c, if_pos ((mem_take_succ h).mpr (.inl c))]
        · rw [if_neg c, if_neg fun z => ((mem_take_succ h).mp z).elim c e]
end
def spKeysT (K : PySem.W.Frag) : Sp := fun vs H Q _ => ∃ (a : Addr) (us : List V) (ks : List (List L2.Key)), vs = [.ref a] ∧ SqL K H a us ∧ us.length = ks.length ∧ ks.length ≤ 4096 ∧ (∀ (i : Nat) (u : V) (k : List L2.Key), us[i]? = some u → ks[i]? = some k → ∃ b, u = .ref b ∧ H b = some (.tup (k.map kV))) ∧ ∀ r H', Ex H H' → H r = none → H' r = some (.tup (nvs (firsts ks))) → Q (.ref r) H'
def spKeysI (K : PySem.W.Frag) : Sp := fun vs H Q _ => ∃ (a : Addr) (us : List V) (ks : List L2.Key), vs = [.ref a] ∧ SqL K H a us ∧ us.length = ks.length ∧ ks.length ≤ 4096 ∧ (∀ (i : Nat) (u : V) (k : L2.Key), us[i]? = some u → ks[i]? = some k → u = kV k) ∧ ∀ r H', Ex H H' → H r = none → H' r = some (.tup (nvs (firsts ks))) → Q (.ref r) H'
section
variable {P : Program} {w : World} {K : PySem.W.Frag} {mg : Str → Option Value} {base : Heap} {AA : Adr}
end
end Eyes

set_option Elab.async false
set_option linter.all false
set_option maxRecDepth 100000
set_option maxHeartbeats 4000000
namespace Eyes
open PySem PySem.Spec PyProof.Rows L2 Evl TL
def besN (p q : List Nat) : List Nat := p ++ q.map (· + p.length)
def spBeside (K : PySem.W.Frag) : Sp := fun vs H Q _ => ∃ (a b : Addr) (p q : List Nat), vs = [.ref a, .ref b] ∧ (1 ≤ p.length ∧ p.length ≤ 4096) ∧ (1 ≤ q.length ∧ q.length ≤ 4096) ∧ SqT K H a (nvs p) ∧ SqT K H b (nvs q) ∧ ∀ r H', Ex H H' → H r = none → H' r = some (.tup (nvs (besN p q))) → Q (.ref r) H'
section
variable {P : Program} {w : World} {K : PySem.W.Frag} {mg : Str → Option Value} {base : Heap} {AA : Adr}
end
end Eyes

set_option Elab.async false
set_option linter.all false
set_option maxRecDepth 100000
set_option maxHeartbeats 4000000
namespace Eyes
open PySem PySem.Spec PyProof.Rows L2 Evl TL
def narN (p cs : List Nat) : List Nat := firsts (cs.map (itm p))
def spNarrowed (K : PySem.W.Frag) : Sp := fun vs H Q _ => ∃ (a b : Addr) (p cs : List Nat), vs = [.ref a, .ref b] ∧ cs.length ≤ 4096 ∧ (∀ c ∈ cs, 1 ≤ c ∧ c ≤ p.length) ∧ SqT K H a (nvs p) ∧ SqL K H b (nvs cs) ∧ ∀ r H', Ex H H' → H r = none → H' r = some (.tup (nvs (narN p cs))) → Q (.ref r) H'
section
variable {P : Program} {w : World} {K : PySem.W.Frag} {mg : Str → Option Value} {base : Heap} {AA : Adr}
end
end Eyes

set_option Elab.async false
set_option linter.all false
set_option maxRecDepth 100000
set_option maxHeartbeats 4000000
/-! list(zip(*rows)) of two rows, list(zip(p, q)): the pairs stay in the list, so each one is new. -/
namespace Eyes
open PySem PySem.Spec PyProof.Rows L2
section
variable {prog : Program} {w : World} {A : Around} {E : Value → Shared → Prop} {s : Shared}
end
structure Zst (b0 : Heap) (S z u o c d : Addr) (xs ys : List Value) (m : Nat) (ts : List Addr) (h : Heap) : Prop where
  len : ts.length = m
  keep : ∀ a ob, b0.get? a = some ob → h.get? a = some ob
  lst : ∃ n, h.get? S = some { cls := .type "list", data := .seq (ts.map Value.ref).toArray n }
  new : ∀ t ∈ ts, b0.objs.size ≤ t ∧ (∃ ob, h.get? t = some ob) ∧ t ∉ [S, z, u, o, c, d]
  nd : ts.Nodup
  at_ : ∀ (i : Nat) (t : Addr) (x y : Value), ts[i]? = some t → xs[i]? = some x → ys[i]? = some y → h.get? t = some { cls := .type "tuple", data := .seq #[x, y] }
section
variable {prog : Program} {w : World} {A : Around} {R : Result → Shared → Prop} {b0 h h' : Heap} {S z u o c d p q : Addr} {xs ys : List Value} {m : Nat} {ts : List Addr}
theorem Zst.turn (st : Zst b0 S z u o c d xs ys m ts h) (old : ∀ a ∈ [z, c, d], b0.objs.size ≤ a) (apS : S ∉ [z, c, d]) (kp : ∀ a ob, a ∉ [z, c, d] → h.get? a = some ob → h'.get? a = some ob) : Zst b0 S z u o c d xs ys m ts h' := by
  obtain ⟨n, hS⟩ := st.lst
  have sub6 : ∀ {a : Addr}, a ∈ [z, c, d] → a ∈ [S, z, u, o, c, d] := fun {a} hm => by
    simp only [List.mem_cons, List.not_mem_nil, or_false] at hm ⊢
    rcases hm with e | e | e
    · exact .inr (.inl e)
    · exact .inr (.inr (.inr (.inr (.inl e))))
    · exact .inr (.inr (.inr (.inr (.inr e))))
  refine ⟨st.len, fun a ob e => kp _ _ (fun hm => ?_) (st.keep _ _ e), ⟨n, kp _ _ apS hS⟩, fun t ht => ⟨(st.new t ht).1, (st.new t ht).2.1.imp fun ob e => kp _ _ (fun hm => (st.new t ht).2.2 (sub6 hm)) e, (st.new t ht).2.2⟩, st.nd, fun i t x y e1 e2 e3 => kp _ _ (fun hm => (st.new t (List.mem_of_getElem? e1)).2.2 (sub6 hm)) (st.at_ i t x y e1 e2 e3)⟩
  exact Nat.lt_irrefl _ (Nat.lt_of_lt_of_le (Heap.lt_size e) (old a hm))
theorem Zst.push (st : Zst b0 S z u o c d xs ys m ts h) {T : Addr} (hT : h.get? T = none) (hT0 : b0.objs.size ≤ T) (hT2 : T ∉ [S, z, u, o, c, d]) (hT3 : ∃ ob, h'.get? T = some ob) (old : ∀ a ∈ [S, z, c, d], b0.objs.size ≤ a) (kp : ∀ a ob, a ∉ [S, z, c, d] → h.get? a = some ob → h'.get? a = some ob)
    (hS : ∃ n, h'.get? S = some { cls := .type "list", data := .seq ((ts ++ [T]).map Value.ref).toArray n }) (hp : ∀ x y, xs[m]? = some x → ys[m]? = some y → h'.get? T = some { cls := .type "tuple", data := .seq #[x, y] }) : Zst b0 S z u o c d xs ys (m + 1) (ts ++ [T]) h' := by
  have nS : ∀ {a ob}, b0.get? a = some ob → a ∉ [S, z, c, d] := fun {a ob} e hm => Nat.lt_irrefl _ (Nat.lt_of_lt_of_le (Heap.lt_size e) (old a hm))
  have sub6 : ∀ {a : Addr}, a ∉ [S, z, u, o, c, d] → a ∉ [S, z, c, d] := fun {a} hn hm => hn (by
    simp only [List.mem_cons, List.not_mem_nil, or_false] at hm ⊢
    rcases hm with e | e | e | e
    · exact .inl e
    · exact .inr (.inl e)
    · exact .inr (.inr (.inr (.inr (.inl e))))
    · exact .inr (.inr (.inr (.inr (.inr e)))))
  refine ⟨by rw [List.length_append, st.len]; rfl, fun a ob e => kp _ _ (nS e) (st.keep _ _ e), hS, fun t ht => ?_, ?_, fun i t x y e1 e2 e3 => ?_⟩
  · rcases List.mem_append.mp ht with ht | ht
    · obtain ⟨a1, a2, a3⟩ := st.new t ht
      exact ⟨a1, a2.imp fun ob e => kp _ _ (sub6 a3) e, a3⟩
    · rw [List.mem_singleton.mp ht]
      exact ⟨hT0, hT3, hT2⟩
  · refine List.nodup_append.mpr ⟨st.nd, by simp, fun a ha b hb e => ?_⟩
    rw [List.mem_singleton.mp hb] at e
    obtain ⟨ob, h2⟩ := (st.new a ha).2.1
    rw [e, hT] at h2
    cases h2
  · by_cases hi : i < ts.length
    · rw [List.getElem?_append_left hi] at e1
      exact kp _ _ (sub6 (st.new t (List.mem_of_getElem? e1)).2.2) (st.at_ i t x y e1 e2 e3)
    · have hl := st.len
      have : i = m := by
        have := (List.getElem?_eq_some_iff.mp e1).1
        rw [List.length_append] at this
        simp at this
        omega
      subst this
      rw [List.getElem?_append_right (by omega), hl, Nat.sub_self] at e1
      rw [← Option.some.inj e1]
      exact hp x y e2 e3
end
/-! ### the heap behind it -/
def layT (H : Hp) : List (Addr × List V) → Hp
  | [] => H
  | (t, c) :: r => upd (layT H r) t (.tup c)
theorem layT_none {H : Hp} {a : Addr} : ∀ {l : List (Addr × List V)}, (∀ p ∈ l, p.1 ≠ a) → layT H l a = H a
  | [], _ => rfl
  | (t, c) :: r, h => by
    show upd (layT H r) t (.tup c) a = _
    rw [upd_ne (fun e => h (t, c) List.mem_cons_self e.symm)]
    exact layT_none fun p hp => h p (List.mem_cons_of_mem _ hp)
theorem layT_cases {H : Hp} {a : Addr} {ob : HO} : ∀ {l : List (Addr × List V)}, layT H l a = some ob → H a = some ob ∨ ∃ c, (a, c) ∈ l ∧ ob = .tup c
  | [], h => .inl h
  | (t, c) :: r, h => by
    by_cases e : a = t
    · subst e
      rw [show layT H ((a, c) :: r) a = some (.tup c) from upd_same] at h
      exact .inr ⟨c, List.mem_cons_self, (Option.some.inj h).symm⟩
    · rw [show layT H ((t, c) :: r) a = layT H r a from upd_ne e] at h
      exact (layT_cases h).imp id fun ⟨c, h1, h2⟩ => ⟨c, List.mem_cons_of_mem _ h1, h2⟩
theorem Inv.many {X : Cx} {pins : List (Addr × Obj)} {σ : L2.St} {H : Hp} {s : Shared} {h' : Heap} {l : List (Addr × List V)} {S : Addr} {vs : List V} {its : List Value} {n : Nat} (I : Inv X pins σ H s) (k : ∀ b o, s.heap.get? b = some o → h'.get? b = some o) (hl : ∀ p ∈ l, s.heap.objs.size ≤ p.1 ∧ p.1 ≠ S) (nd : (l.map (·.1)).Nodup) (hS : s.heap.objs.size ≤ S)
    (ok : ∀ p ∈ l, p.2.length ≤ sizeLine ∧ ∃ us, Vals p.2 us ∧ IsTup h' p.1 us.toArray) (hv : vs.length ≤ sizeLine) (rv : Vals vs its) (hs : h'.get? S = some { cls := .type "list", data := .seq its.toArray n }) : Inv X pins σ (upd (layT H l) S (.lst vs)) { s with heap := h' } := by
  have hn : ∀ {a : Addr}, s.heap.objs.size ≤ a → H a = none := fun {a} h => I.hok.fresh h
  have old : ∀ {a : Addr} {o : Obj}, s.heap.get? a = some o → (∀ p ∈ l, p.1 ≠ a) ∧ a ≠ S := fun {a o} e => by
    have := Heap.lt_size e
    exact ⟨fun p hp z => Nat.lt_irrefl _ (Nat.lt_of_lt_of_le this (z ▸ (hl p hp).1)), fun z => Nat.lt_irrefl _ (Nat.lt_of_lt_of_le this (z ▸ hS))⟩
  have tr : ∀ {a : Addr} {o : HO}, H a = some o → (∀ p ∈ l, p.1 ≠ a) ∧ a ≠ S := fun {a o} e => by
    have z := I.hok.lt e
    exact ⟨fun p hp y => Nat.lt_irrefl _ (Nat.lt_of_lt_of_le z (y ▸ (hl p hp).1)), fun y => Nat.lt_irrefl _ (Nat.lt_of_lt_of_le z (y ▸ hS))⟩
  have ext : ∀ {a : Addr} {o : HO}, H a = some o → upd (layT H l) S (.lst vs) a = some o := fun {a o} e => by
    rw [upd_ne (tr e).2, layT_none (tr e).1]
    exact e
  have no : ∀ {a : Addr} {o : Obj}, s.heap.get? a = some o → H a = none → upd (layT H l) S (.lst vs) a = none := fun {a o} e z => by
    rw [upd_ne (old e).2, layT_none (old e).1]
    exact z
  refine I.un (t' := s.toks) ⟨fun b ob q _ _ _ => k b ob q, fun b ob q _ _ _ => ⟨ob.slots, k b ob q⟩, fun b ob q z _ => no q z, fun b ob q _ => ⟨ob, k b ob q⟩, fun b xs q => ext q, fun b o u q => ext q, fun b ps q => ⟨#[], by rw [ext q]; simp⟩⟩ fun a o e => ?_
  by_cases ha : a = S
  · subst ha
    rw [upd_same] at e
    cases e
    exact ⟨hv, its, n, rv, hs⟩
  · rw [upd_ne ha] at e
    rcases layT_cases e with e | ⟨c, hc, rfl⟩
    · exact (I.hok a o e).stay (fun b u _ q => k b u q) (fun b q => ext q) fun b xs q => ext q
    · obtain ⟨z1, us, z2, z3⟩ := ok (a, c) hc
      exact ⟨z1, us, z2, z3⟩
open Evl
def kListZ (K : PySem.W.Frag) (a b : Addr) (H1 : Hp) (Q : VK) : Prop := ∃ xs ys : List V, SqT K H1 a xs ∧ SqT K H1 b ys ∧ xs.length = ys.length ∧ 0 < xs.length ∧ xs.length ≤ 100000 ∧ ∀ q us H2, Ex H1 H2 → H1 q = none → H2 q = some (.lst us) → us.length = xs.length → (∀ (i : Nat) (x y : V), xs[i]? = some x → ys[i]? = some y → ∃ t, us[i]? = some (.ref t) ∧ H1 t = none ∧ H2 t = some (.tup [x, y])) → Q (.ref q) H2
section
variable {X : Cx} {p pos p2 pos2 : Pos} {e e2 : Expr} {ta : TA} {te : TE}
def tListZ (K : PySem.W.Frag) (ta : TA) : TE := fun σ H Q => ta σ H fun vs H1 => ∃ a b, vs = [.ref a, .ref b] ∧ kListZ K a b H1 Q
def tListZS (K : PySem.W.Frag) (te : TE) : TE := fun σ H Q => te σ H fun x H1 => ∃ l a b, x = .ref l ∧ SqL K H1 l [.ref a, .ref b] ∧ kListZ K a b H1 Q
end
end Eyes

set_option Elab.async false
set_option linter.all false
set_option maxRecDepth 100000
set_option maxHeartbeats 4000000
/-! zip(*rows) of any number of rows (one at least): making it, each turn, list(..). -/
namespace Eyes
open PySem PySem.Spec PyProof.Rows L2
section
variable {prog : Program} {w : World} {A : Around} {E : Value → Shared → Prop} {s : Shared}
def itOb (p : Addr) : Obj := { cls := .type "tuple_iterator", data := .fields #[.ref p, .int 0 0] }
def its0 : List Addr → Heap → Heap
  | [], h => h
  | p :: ps, h => its0 ps (h.push (itOb p))
end
def znU (ps : List Addr) (h : Heap) : Heap := (its0 ps h).push { cls := .type "tuple", data := .seq ((List.range' h.objs.size ps.length).map Value.ref).toArray }
def znO (ps : List Addr) (h : Heap) : Heap := (znU ps h).push { cls := .type "tuple", data := .seq (((List.range' h.objs.size ps.length).map Value.ref).map fun _ => Value.none).toArray }
def znZ (ps : List Addr) (h : Heap) : Heap := (znO ps h).push { cls := .type "zip", data := .fields #[.none, .bool false, .bool false, .ref (its0 ps h).objs.size, .ref (znU ps h).objs.size] }
abbrev IsTp (h : Heap) (a : Addr) (xs : List Value) : Prop := h.get? a = some { cls := .type "tuple", data := .seq xs.toArray }
end Eyes

set_option Elab.async false
set_option linter.all false
set_option maxRecDepth 100000
set_option maxHeartbeats 4000000
/-! A turn of a zip of n tuples. -/
namespace Eyes
open PySem PySem.Spec PyProof.Rows L2
abbrev ZRow := Addr × Addr × List Value
structure ZApt (z u o : Addr) (L : List ZRow) : Prop where
  uz : u ≠ z
  oz : o ≠ z
  uo : u ≠ o
  it : ∀ e ∈ L, e.1 ≠ z ∧ e.1 ≠ u ∧ e.1 ≠ o
  tp : ∀ e ∈ L, e.2.1 ≠ z ∧ e.2.1 ≠ o ∧ ∀ e' ∈ L, e.2.1 ≠ e'.1
  nd : (L.map (·.1)).Nodup
def zAt (m : Nat) (L : List ZRow) : List Value := L.map fun e => e.2.2.getD m .none
section
variable {prog : Program} {w : World} {A : Around} {E : Value → Shared → Prop} {s : Shared} {z u o : Addr} {L : List ZRow} {m : Nat}
structure ZMid (h0 : Heap) (ex : List Addr) (m : Nat) (done rest : List ZRow) (h : Heap) : Prop where
  size : h.objs.size = h0.objs.size
  dn : ∀ e ∈ done, h.IsTupleIter e.1 e.2.1 (m + 1)
  rs : ∀ e ∈ rest, h.IsTupleIter e.1 e.2.1 m
  keep : ∀ a ob, a ∉ ex → (∀ e ∈ done, a ≠ e.1) → h0.get? a = some ob → h.get? a = some ob
theorem ZMid.step {h0 h h' : Heap} {ex : List Addr} {done rest : List ZRow} {e : ZRow} (S : ZMid h0 ex m done (e :: rest) h) (nd : ((done ++ e :: rest).map (·.1)).Nodup) (hi : h'.IsTupleIter e.1 e.2.1 (m + 1)) (hs : Heap.SameBut e.1 h h') : ZMid h0 ex m (done ++ [e]) rest h' := by
  rw [List.map_append, List.map_cons] at nd
  obtain ⟨n1, n2, n3⟩ := List.nodup_append.mp nd
  have n4 := (List.nodup_cons.mp n2).1
  refine ⟨by rw [hs.1, S.size], fun x hx => ?_, fun x hx => ?_, fun a ob na nd q => ?_⟩
  · rcases List.mem_append.mp hx with hx | hx
    · exact (S.dn x hx).extBut hs.extBut fun y => n3 x.1 (List.mem_map.mpr ⟨x, hx, rfl⟩) e.1 List.mem_cons_self y
    · rw [List.mem_singleton.mp hx]
      exact hi
  · exact (S.rs x (List.mem_cons_of_mem _ hx)).extBut hs.extBut fun y => n4 (by rw [← y]; exact List.mem_map.mpr ⟨x, hx, rfl⟩)
  · exact hs.extBut _ _ (nd e (by simp)) (S.keep a ob na (fun x hx => nd x (by simp [hx])) q)
theorem ZMid.upd {h0 h : Heap} {ex : List Addr} {done rest : List ZRow} {f : Obj → Obj} (S : ZMid h0 ex m done rest h) (ho : o ∈ ex) (hi : ∀ e ∈ done ++ rest, e.1 ≠ o) : ZMid h0 ex m done rest (h.update o f) := by
  have go : ∀ {a ob}, a ≠ o → h.get? a = some ob → (h.update o f).get? a = some ob := fun {a ob} na e => (Heap.get?_update_other _ _ (Ne.symm na)).trans e
  refine ⟨by rw [Heap.size_update, S.size], fun x hx => (S.dn x hx).at fun _ y => go (hi x (by simp [hx])) y, fun x hx => (S.rs x hx).at fun _ y => go (hi x (by simp [hx])) y, fun a ob na nd q => go (fun y => na (by rw [y]; exact ho)) (S.keep a ob na nd q)⟩
end
end Eyes

set_option Elab.async false
set_option linter.all false
set_option maxRecDepth 100000
set_option maxHeartbeats 4000000
/-! list(zip(*rows)) of n rows. -/
namespace Eyes
open PySem PySem.Spec PyProof.Rows L2
section
variable {prog : Program} {w : World} {A : Around} {E : Value → Shared → Prop} {s : Shared} {z u o : Addr} {L : List ZRow} {m : Nat}
end
structure Zsn (b0 : Heap) (S z u o : Addr) (L : List ZRow) (m : Nat) (ts : List Addr) (h : Heap) : Prop where
  len : ts.length = m
  keep : ∀ a ob, b0.get? a = some ob → h.get? a = some ob
  lst : ∃ n, h.get? S = some { cls := .type "list", data := .seq (ts.map Value.ref).toArray n }
  new : ∀ t ∈ ts, b0.objs.size ≤ t ∧ (∃ ob, h.get? t = some ob) ∧ t ∉ S :: u :: o :: z :: L.map (·.1)
  nd : ts.Nodup
  at_ : ∀ (i : Nat) (t : Addr), ts[i]? = some t → IsTp h t (zAt i L)
section
variable {prog : Program} {w : World} {A : Around} {R : Result → Shared → Prop} {b0 h h' : Heap} {S z u o : Addr} {L : List ZRow} {m : Nat} {ts : List Addr}
theorem zit_all {a : Addr} (h : a ∈ z :: L.map (·.1)) : a ∈ S :: u :: o :: z :: L.map (·.1) := List.mem_cons_of_mem _ (List.mem_cons_of_mem _ (List.mem_cons_of_mem _ h))
theorem Zsn.turn (st : Zsn b0 S z u o L m ts h) (old : ∀ a ∈ z :: L.map (·.1), b0.objs.size ≤ a) (apS : S ∉ z :: L.map (·.1)) (kp : ∀ a ob, a ∉ z :: L.map (·.1) → h.get? a = some ob → h'.get? a = some ob) : Zsn b0 S z u o L m ts h' := by
  obtain ⟨n, hS⟩ := st.lst
  refine ⟨st.len, fun a ob e => kp _ _ (fun hm => ?_) (st.keep _ _ e), ⟨n, kp _ _ apS hS⟩, fun t ht => ⟨(st.new t ht).1, (st.new t ht).2.1.imp fun ob e => kp _ _ (fun hm => (st.new t ht).2.2 (zit_all hm)) e, (st.new t ht).2.2⟩, st.nd, fun i t e1 => kp _ _ (fun hm => (st.new t (List.mem_of_getElem? e1)).2.2 (zit_all hm)) (st.at_ i t e1)⟩
  exact Nat.lt_irrefl _ (Nat.lt_of_lt_of_le (Heap.lt_size e) (old a hm))
theorem Zsn.push (st : Zsn b0 S z u o L m ts h) {T : Addr} (hT : h.get? T = none) (hT0 : b0.objs.size ≤ T) (hT2 : T ∉ S :: u :: o :: z :: L.map (·.1)) (old : ∀ a ∈ S :: z :: L.map (·.1), b0.objs.size ≤ a) (kp : ∀ a ob, a ∉ S :: z :: L.map (·.1) → h.get? a = some ob → h'.get? a = some ob)
    (hS : ∃ n, h'.get? S = some { cls := .type "list", data := .seq ((ts ++ [T]).map Value.ref).toArray n }) (hp : IsTp h' T (zAt m L)) : Zsn b0 S z u o L (m + 1) (ts ++ [T]) h' := by
  have nS : ∀ {a ob}, b0.get? a = some ob → a ∉ S :: z :: L.map (·.1) := fun {a ob} e hm => Nat.lt_irrefl _ (Nat.lt_of_lt_of_le (Heap.lt_size e) (old a hm))
  have sub6 : ∀ {a : Addr}, a ∉ S :: u :: o :: z :: L.map (·.1) → a ∉ S :: z :: L.map (·.1) := fun {a} hn hm => hn (by
    rcases List.mem_cons.mp hm with e | hm
    · rw [e]
      exact List.mem_cons_self
    · exact zit_all hm)
  refine ⟨by rw [List.length_append, st.len]; rfl, fun a ob e => kp _ _ (nS e) (st.keep _ _ e), hS, fun t ht => ?_, ?_, fun i t e1 => ?_⟩
  · rcases List.mem_append.mp ht with ht | ht
    · obtain ⟨a1, a2, a3⟩ := st.new t ht
      exact ⟨a1, a2.imp fun ob e => kp _ _ (sub6 a3) e, a3⟩
    · rw [List.mem_singleton.mp ht]
      exact ⟨hT0, ⟨_, hp⟩, hT2⟩
  · refine List.nodup_append.mpr ⟨st.nd, by simp, fun a ha b hb e => ?_⟩
    rw [List.mem_singleton.mp hb] at e
    obtain ⟨ob, h2⟩ := (st.new a ha).2.1
    rw [e, hT] at h2
    cases h2
  · by_cases hi : i < ts.length
    · rw [List.getElem?_append_left hi] at e1
      exact kp _ _ (sub6 (st.new t (List.mem_of_getElem? e1)).2.2) (st.at_ i t e1)
    · have hl := st.len
      have : i = m := by
        have := (List.getElem?_eq_some_iff.mp e1).1
        rw [List.length_append] at this
        simp at this
        omega
      subst this
      rw [List.getElem?_append_right (by omega), hl, Nat.sub_self] at e1
      rw [← Option.some.inj e1]
      exact hp
end
end Eyes

set_option Elab.async false
set_option linter.all false
set_option maxRecDepth 100000
set_option maxHeartbeats 4000000
/-! The rule: list(zip(*rows)), rows a list or a tuple of n tuples (n at least one) of one length (at least one). -/
namespace Eyes
open PySem PySem.Spec PyProof.Rows L2 Evl
def kListN (K : PySem.W.Frag) (rows : List (Addr × List V)) (H1 : Hp) (Q : VK) : Prop := ∃ M : Nat, rows ≠ [] ∧ rows.length ≤ 90000 ∧ 0 < M ∧ M ≤ 90000 ∧ (∀ e ∈ rows, SqT K H1 e.1 e.2 ∧ e.2.length = M) ∧
  ∀ q us H2, Ex H1 H2 → H1 q = none → H2 q = some (.lst us) → us.length = M → (∀ i, i < M → ∃ t, us[i]? = some (.ref t) ∧ H1 t = none ∧ H2 t = some (.tup (rows.map fun e => e.2.getD i .non))) → Q (.ref q) H2
section
variable {X : Cx} {p pos p2 pos2 : Pos} {e : Expr} {te : TE}
def tListN (K : PySem.W.Frag) (te : TE) : TE := fun σ H Q => te σ H fun x H1 => ∃ (l : Addr) (rows : List (Addr × List V)), x = .ref l ∧ (SqT K H1 l (rows.map fun e => V.ref e.1) ∨ SqL K H1 l (rows.map fun e => V.ref e.1)) ∧ kListN K rows H1 Q
end
end Eyes

set_option Elab.async false
set_option linter.all false
set_option maxRecDepth 100000
set_option maxHeartbeats 4000000
/-! met, any number of rows. -/
namespace Eyes
open PySem PySem.Spec PyProof.Rows L2 Evl TL
def kNat (x : Nat) : L2.Key := .inl (x : Int)
def keysK (n : Nat) (ps : List (List Nat)) : List (List L2.Key) := (keysN n ps).map fun k => k.map kNat
def spMetN (K : PySem.W.Frag) : Sp := fun vs H Q _ => ∃ (n : Nat) (l : Addr) (rows : List (Addr × List Nat)), vs = [.ref l] ∧ SqL K H l (rows.map fun e => V.ref e.1) ∧ rows ≠ [] ∧ rows.length ≤ 90000 ∧ (∀ e ∈ rows, SqT K H e.1 (nvs e.2) ∧ IsP n e.2) ∧ 1 ≤ n ∧ n ≤ 4096 ∧
  ∀ r H', Ex H H' → H r = none → H' r = some (.tup (nvs (metN n (rows.map (·.2))))) → Q (.ref r) H'
section
variable {P : Program} {w : World} {K : PySem.W.Frag} {mg : Str → Option Value} {base : Heap} {AA : Adr}
end
end Eyes

set_option Elab.async false
set_option linter.all false
set_option maxRecDepth 100000
set_option maxHeartbeats 4000000
/-! The law's knots: a row of (title, case, case). -/
namespace Eyes
open PySem PySem.Spec PyProof.Rows L2 Evl TL
abbrev Knot := Str × Nat × Nat
def Knots (G : Hp) (us : List V) (ks : List Knot) : Prop := us.length = ks.length ∧ ∀ (i : Nat) (u : V) (k : Knot), us[i]? = some u → ks[i]? = some k → ∃ p, u = .ref p ∧ G p = some (.tup [.str k.1, .int (k.2.1 : Nat), .int (k.2.2 : Nat)])
theorem Knots.mono {G G' : Hp} {us : List V} {ks : List Knot} (e : Ex G G') (h : Knots G us ks) : Knots G' us ks := ⟨h.1, fun i u k h1 h2 => by
  obtain ⟨p, rfl, hp⟩ := h.2 i u k h1 h2
  exact ⟨p, rfl, e _ _ hp⟩⟩
theorem Knots.put {G : Hp} {D : Addr} {us vs ws : List V} {ks : List Knot} (hD : G D = some (.lst vs)) (h : Knots G us ks) : Knots (upd G D (.lst ws)) us ks := ⟨h.1, fun i u k h1 h2 => by
  obtain ⟨p, rfl, hp⟩ := h.2 i u k h1 h2
  refine ⟨p, rfl, ?_⟩
  rw [upd_ne fun y => by rw [y, hD] at hp; cases hp]
  exact hp⟩
theorem Knots.snoc {G : Hp} {us : List V} {ks : List Knot} {p : Addr} {k : Knot} (h : Knots G us ks) (hp : G p = some (.tup [.str k.1, .int (k.2.1 : Nat), .int (k.2.2 : Nat)])) : Knots G (us ++ [.ref p]) (ks ++ [k]) := by
  refine ⟨by rw [List.length_append, List.length_append, h.1]; rfl, fun i u x h1 h2 => ?_⟩
  by_cases hi : i < us.length
  · rw [List.getElem?_append_left hi] at h1
    rw [List.getElem?_append_left (by rw [← h.1]; exact hi)] at h2
    exact h.2 i u x h1 h2
  · have := (List.getElem?_eq_some_iff.mp h1).1
    rw [List.length_append] at this
    have e : i = us.length := by
      simp at this
      omega
    subst e
    rw [List.getElem?_append_right (Nat.le_refl _), Nat.sub_self] at h1
    rw [List.getElem?_append_right (by rw [← h.1]; exact Nat.le_refl _), h.1, Nat.sub_self] at h2
    cases h1
    cases h2
    exact ⟨p, rfl, hp⟩
def spKnots : Sp := fun vs H Q _ => ∃ (b tla : Addr) (G : Hp) (ts : List Str) (n c : Nat), vs = [.ref b, .ref tla, .int (n : Int), .int (c : Int)] ∧ At b G H ∧ G tla = some (.lst (ts.map V.str)) ∧ ts ≠ [] ∧ ts.length ≤ 1000 ∧ 1 ≤ n ∧ n ≤ 4096 ∧ c ≤ 1000 ∧
  ∀ (D : Addr) (us : List V) (ks : List Knot) (G' H' : Hp), Ex G G' → At b G' H' → G' D = some (.lst us) → G D = none → Knots G' us ks → ks.length = c → (∀ k ∈ ks, k.1 ∈ ts ∧ 1 ≤ k.2.1 ∧ k.2.1 ≤ n ∧ 1 ≤ k.2.2 ∧ k.2.2 ≤ n) → Q (.ref D) H'
section
variable {P : Program} {w : World} {K : PySem.W.Frag} {mg : Str → Option Value} {base : Heap} {AA : Adr}
theorem ok_law_knots (T : Txt K mg AA) : Pr P w K mg base "_law_knots" s_law_knots p_law_knots 4 spKnots := by
  refine pr_mk T.f_law_knots sc_law_knots (fun vs H Q E h => ?_) (fun f cdv A outer s H vs Q E hr h => ?_)
  · obtain ⟨b, tla, G, ts, n, c, rfl, _⟩ := h
    rfl
  · obtain ⟨b, tla, G, ts, n, c, rfl, hA, htl, hne, htl2, hn1, hn2, hc, q⟩ := h
    refine ⟨_, (pss_cons (ps_set (i := 4) sc_law_knots.nd rfl (.inl rfl) (pe_lst pa_nil))
      (pss_cons (ps_for PassesOwn.never rfl (pi_range1 (by rfl) T.n_range (pa_cons (pv 3) pa_nil)) (pg_name (i := 5) sc_law_knots.nd rfl (.inl rfl))
      (pss_one (ps_expr (pe_bm PySem.F.plainAttrs_list PySem.F.slot_list_append PySem.F.type_list_append mt_append (pv 4) (pa_cons (pe_tup (pa_cons (pcall (ok_law_of T) hr (pa_cons (pv 0) (pa_cons (pv 1) pa_nil))) (pa_cons (pe_op op_add pe_int (pcall (ok_law_draw T) hr (pa_cons (pv 0) (pa_cons (pv 2) pa_nil)))) (pa_cons (pe_op op_add pe_int (pcall (ok_law_draw T) hr (pa_cons (pv 0) (pa_cons (pv 2) pa_nil)))) pa_nil)))) pa_nil)))))
      (pss_one (ps_ret (pv 4))))), ?_⟩
    have htp : 0 < (ts.map V.str).length := by
      rw [List.length_map]
      exact List.length_pos_iff.mpr hne
    have htq : (ts.map V.str).length < 1073741824 := by
      rw [List.length_map]
      omega
    refine ⟨by show 0 ≤ sizeLine; decide, fun D hD => ?_⟩
    have htD : tla ≠ D := fun e => by
      rw [← e, hA.ex _ _ htl] at hD
      cases hD
    have hA1 := hA.new (o := .lst []) hD
    have hGD := hA.nh hD
    refine ⟨_, rfl, _, rfl, by omega, by omega, ?_⟩
    refine for_it walk_range (fun i σ H' => ∃ (G' : Hp) (us : List V) (ks : List Knot) (y5 : Option V), σ = [some (.ref b), some (.ref tla), some (.int (n : Int)), some (.int (c : Int)), some (.ref D), y5] ∧ At b (upd G' D (.lst us)) H' ∧ Ex G G' ∧ G' D = none ∧ Knots G' us ks ∧ ks.length = i ∧ (∀ k ∈ ks, k.1 ∈ ts ∧ 1 ≤ k.2.1 ∧ k.2.1 ≤ n ∧ 1 ≤ k.2.2 ∧ k.2.2 ≤ n)) ⟨G, [], [], none, rfl, hA1, Ex.refl _, hGD, ⟨rfl, fun i u k h => by cases h⟩, rfl, fun k hk => nomatch hk⟩ (fun _ _ _ _ _ => True.intro) (fun i kv σ H4 H5 hi hp hy => ?_) (fun σ H6 hp => ?_)
    · obtain ⟨rfl, rfl⟩ := hy
      obtain ⟨G', us, ks, y5, rfl, hA2, x2, hD2, hk, hkl, hks⟩ := hp
      refine ⟨_, rfl, .inl ⟨rfl, us, sq_of (hA2.ex _ _ upd_same)⟩, _, rfl, _, rfl, b, .ref tla, _, _, rfl, hA2, .inl ⟨tla, rfl, sq_of ((upd_ne htD).trans (x2 _ _ htl))⟩, htp, htq, fun kx H6 hkx hA3 => ?_⟩
      obtain ⟨t, ht, rfl⟩ := List.mem_map.mp hkx
      refine ⟨_, rfl, _, rfl, b, (n : Int), _, rfl, hA3, by omega, by omega, fun d1 H7 a0 a1 hA4 => ⟨1, d1, rfl, rfl, _, rfl, _, rfl, b, (n : Int), _, rfl, hA4, by omega, by omega, fun d2 H8 b0 b1 hA5 => ⟨1, d2, rfl, rfl, by show 3 ≤ sizeLine; decide, fun p hp => ?_⟩⟩⟩
      obtain ⟨e1, rfl⟩ := Int.eq_ofNat_of_zero_le a0
      obtain ⟨e2, rfl⟩ := Int.eq_ofNat_of_zero_le b0
      have c1 : (1 : Int) + (e1 : Int) = ((1 + e1 : Nat) : Int) := by omega
      have c2 : (1 : Int) + (e2 : Int) = ((1 + e2 : Nat) : Int) := by omega
      show ∃ _, _
      dsimp only
      rw [c1, c2]
      have hA6 := hA5.new (o := .tup [.str t, .int ((1 + e1 : Nat) : Int), .int ((1 + e2 : Nat) : Int)]) hp
      have hpD : p ≠ D := fun y => by
        rw [y, hA5.ex _ _ upd_same] at hp
        cases hp
      have hDv : (upd (upd G' D (.lst us)) p (.tup [.str t, .int ((1 + e1 : Nat) : Int), .int ((1 + e2 : Nat) : Int)])) D = some (.lst us) := (upd_ne hpD.symm).trans upd_same
      have hpG : G' p = none := by
        have := hA5.nh hp
        rw [upd_ne hpD] at this
        exact this
      have e3 : upd (upd (upd G' D (.lst us)) p (.tup [.str t, .int ((1 + e1 : Nat) : Int), .int ((1 + e2 : Nat) : Int)])) D (.lst (us ++ [.ref p])) = upd (upd G' p (.tup [.str t, .int ((1 + e1 : Nat) : Int), .int ((1 + e2 : Nat) : Int)])) D (.lst (us ++ [.ref p])) := by
        funext a
        by_cases ha : a = D
        · rw [ha, upd_same, upd_same]
        · rw [upd_ne ha, upd_ne ha]
          by_cases hb : a = p
          · rw [hb, upd_same, upd_same]
          · rw [upd_ne hb, upd_ne hb, upd_ne ha]
      have hA7 := hA6.put' (o' := .lst (us ++ [.ref p])) hDv
      rw [e3] at hA7
      refine ⟨D, us, _, rfl, rfl, hA6.ex _ _ hDv, sz_lt (by rw [hk.1]; omega), upd G' p (.tup [.str t, .int ((1 + e1 : Nat) : Int), .int ((1 + e2 : Nat) : Int)]), us ++ [.ref p], ks ++ [(t, 1 + e1, 1 + e2)], _, rfl, hA7, x2.trans (Ex.new hpG), (upd_ne hpD.symm).trans hD2, (hk.mono (Ex.new hpG)).snoc upd_same, by rw [List.length_append]; show ks.length + 1 = i + 1; omega, fun k hk => ?_⟩
      rcases List.mem_append.mp hk with hk | hk
      · exact hks k hk
      · rw [List.mem_singleton.mp hk]
        exact ⟨ht, by show 1 ≤ 1 + e1; omega, by show 1 + e1 ≤ n; omega, by show 1 ≤ 1 + e2; omega, by show 1 + e2 ≤ n; omega⟩
    · obtain ⟨G', us, ks, y5, rfl, hA2, x2, hD2, hk, hkl, hks⟩ := hp
      exact ⟨_, rfl, q D us ks _ _ (x2.trans (Ex.new hD2)) hA2 upd_same hGD (hk.mono (Ex.new hD2)) (by omega) hks⟩
end
end Eyes

set_option Elab.async false
set_option linter.all false
set_option maxRecDepth 100000
set_option maxHeartbeats 4000000
/-! The law's views: a dict of names to partings, by the knots one after another. -/
namespace Eyes
open PySem PySem.Spec PyProof.Rows L2 Evl TL
/-! ### views: names and partings in their order -/
abbrev Vw := List (Str × List Nat)
def wGet (f : Vw) (t : Str) : Option (List Nat) := (f.find? fun e => decide (e.1 = t)).map (·.2)
def wPut (f : Vw) (t : Str) (p : List Nat) : Vw := if (f.any fun e => decide (e.1 = t)) = true then f.map (fun e => if e.1 = t then (e.1, p) else e) else f ++ [(t, p)]
def knotV (n : Nat) (f : Vw) (k : Knot) : Vw := wPut f k.1 (mrg1 ((wGet f k.1).getD (alone n)) k.2.1 k.2.2)
def knotsV (n : Nat) (ks : List Knot) : Vw := ks.foldl (knotV n) []
abbrev VRow := Str × Addr × List Nat
def vK (W : List VRow) : List (L2.Key × V) := W.map fun e => (.inr e.1, .ref e.2.1)
def vW (W : List VRow) : Vw := W.map fun e => (e.1, e.2.2)
def vGet (W : List VRow) (t : Str) : Option VRow := W.find? fun e => decide (e.1 = t)
def vPut (W : List VRow) (t : Str) (a : Addr) (p : List Nat) : List VRow := if (W.any fun e => decide (e.1 = t)) = true then W.map (fun e => if e.1 = t then (e.1, a, p) else e) else W ++ [(t, a, p)]
theorem inr_iff {s t : Str} : (Sum.inr s : L2.Key) = .inr t ↔ s = t := ⟨fun h => Sum.inr.inj h, fun h => by rw [h]⟩
theorem vK_get (t : Str) : ∀ W : List VRow, valV (vK W) (.inr t) = (vGet W t).map fun e => .ref e.2.1
  | [] => rfl
  | e :: W => by
    show valV (((.inr e.1 : L2.Key), V.ref e.2.1) :: vK W) (.inr t) = _
    unfold vGet
    rw [List.find?_cons]
    by_cases h : e.1 = t
    · rw [valV_pos (inr_iff.mpr h), decide_eq_true h]
      rfl
    · rw [valV_neg (fun z => h (inr_iff.mp z)), decide_eq_false h]
      exact vK_get t W
theorem vW_get (t : Str) : ∀ W : List VRow, wGet (vW W) t = (vGet W t).map fun e => e.2.2
  | [] => rfl
  | e :: W => by
    unfold wGet vGet vW
    rw [List.map_cons, List.find?_cons, List.find?_cons]
    by_cases h : e.1 = t
    · rw [decide_eq_true h]
      rfl
    · rw [decide_eq_false h]
      exact vW_get t W
theorem vK_put {W : List VRow} {t : Str} {a : Addr} {p : List Nat} : putK (vK W) (.inr t) (.ref a) = vK (vPut W t a p) := by
  unfold putK vPut
  have e : ((vK W).any fun kv => decide (kv.1 = .inr t)) = W.any fun e => decide (e.1 = t) := by
    unfold vK
    rw [List.any_map]
    refine congrArg (fun f => W.any f) (funext fun e => ?_)
    exact decide_eq_decide.mpr inr_iff
  rw [e]
  split
  · unfold vK
    rw [List.map_map, List.map_map]
    refine List.map_congr_left fun x _ => ?_
    show (if (Sum.inr x.1 : L2.Key) = .inr t then _ else _) = _
    by_cases h : x.1 = t
    · rw [if_pos (inr_iff.mpr h)]
      show _ = ((fun e : VRow => ((.inr e.1 : L2.Key), V.ref e.2.1)) ∘ fun e : VRow => if e.1 = t then (e.1, a, p) else e) x
      simp [h]
    · rw [if_neg fun z => h (inr_iff.mp z)]
      simp [h]
  · unfold vK
    rw [List.map_append]
    rfl
theorem vW_put {W : List VRow} {t : Str} {a : Addr} {p : List Nat} : wPut (vW W) t p = vW (vPut W t a p) := by
  unfold wPut vPut
  have e : ((vW W).any fun kv => decide (kv.1 = t)) = W.any fun e => decide (e.1 = t) := by
    unfold vW
    rw [List.any_map]
    rfl
  rw [e]
  split
  · unfold vW
    rw [List.map_map, List.map_map]
    refine List.map_congr_left fun x _ => ?_
    by_cases h : x.1 = t
    · simp [h]
    · simp [h]
  · unfold vW
    rw [List.map_append]
    rfl
theorem vPut_len {W : List VRow} {t : Str} {a : Addr} {p : List Nat} : (vPut W t a p).length ≤ W.length + 1 := by
  unfold vPut
  split
  · rw [List.length_map]
    omega
  · rw [List.length_append]
    exact Nat.le_refl _
theorem vPut_all {W : List VRow} {t : Str} {a : Addr} {p : List Nat} {Pp : Addr → List Nat → Prop} (h : ∀ e ∈ W, Pp e.2.1 e.2.2) (hp : Pp a p) : ∀ e ∈ vPut W t a p, Pp e.2.1 e.2.2 := fun e he => by
  unfold vPut at he
  split at he
  · obtain ⟨x, hx, rfl⟩ := List.mem_map.mp he
    split
    · exact hp
    · exact h x hx
  · rcases List.mem_append.mp he with he | he
    · exact h e he
    · rw [List.mem_singleton.mp he]
      exact hp
def VwAt (H : Hp) (D : Addr) (n : Nat) (f : Vw) : Prop := ∃ W : List VRow, H D = some (.dK (vK W)) ∧ vW W = f ∧ ∀ e ∈ W, H e.2.1 = some (.tup (nvs e.2.2)) ∧ IsP n e.2.2
theorem VwAt.mono {H H' : Hp} {D : Addr} {n : Nat} {f : Vw} (e : Ex H H') (h : VwAt H D n f) : VwAt H' D n f := by
  obtain ⟨W, h1, h2, h3⟩ := h
  exact ⟨W, e _ _ h1, h2, fun x hx => ⟨e _ _ (h3 x hx).1, (h3 x hx).2⟩⟩
def spViews (K : PySem.W.Frag) : Sp := fun vs H Q _ => ∃ (n : Nat) (l : Addr) (us : List V) (ks : List Knot), vs = [.int (n : Int), .ref l] ∧ n ≤ 4096 ∧ H l = some (.lst us) ∧ Knots H us ks ∧ ks.length ≤ 1000 ∧ (∀ k ∈ ks, 1 ≤ k.2.1 ∧ k.2.1 ≤ n ∧ 1 ≤ k.2.2 ∧ k.2.2 ≤ n) ∧
  ∀ D H', Ex H H' → H D = none → VwAt H' D n (knotsV n ks) → Q (.ref D) H'
section
variable {P : Program} {w : World} {K : PySem.W.Frag} {mg : Str → Option Value} {base : Heap} {AA : Adr}
theorem ok_law_views (T : Txt K mg AA) : Pr P w K mg base "_law_views" s_law_views p_law_views 4 (spViews K) := by
  refine pr_mk T.f_law_views sc_law_views (fun vs H Q E h => ?_) (fun f cdv A outer s H vs Q E hr h => ?_)
  · obtain ⟨n, l, us, ks, rfl, _⟩ := h
    rfl
  · obtain ⟨n, l, us, ks, rfl, hn, hl, hk, hkl, hks, q⟩ := h
    refine ⟨_, (pss_cons (ps_set (i := 2) sc_law_views.nd rfl (.inl rfl) pe_dnewK)
      (pss_cons (ps_for PassesOwn.never rfl (pi_list (pv 1)) (pg_tup (by rfl) (pgs_cons (pg_name (i := 3) sc_law_views.nd rfl (.inl rfl)) (pgs_cons (pg_name (i := 4) sc_law_views.nd rfl (.inl rfl)) (pgs_cons (pg_name (i := 5) sc_law_views.nd rfl (.inl rfl)) pgs_nil))))
      (pss_one (ps_dput (hu_of hr) (pv 2) (pv 3) (pcall (ok_law_merged T) hr (pa_cons (pe_dget2 (hu_of hr) (pv 2) (pv 3) (pcall (ok_law_alone T) hr (pa_cons (pv 0) pa_nil)) ⟨by rfl, by rfl, by rfl, by rfl⟩) (pa_cons (pe_lst (pa_cons (pe_tup (pa_cons (pv 4) (pa_cons (pv 5) pa_nil))) pa_nil)) pa_nil))) rfl)))
      (pss_one (ps_ret (pv 2))))), ?_⟩
    refine fun D hD => ⟨_, rfl, l, rfl, ⟨us, sq_of (Ex.new hD _ _ hl)⟩, ?_⟩
    refine for_list (xs := us) (fun i σ H' => ∃ (W : List VRow) (y3 y4 y5 : Option V), σ = [some (.int (n : Int)), some (.ref l), some (.ref D), y3, y4, y5] ∧ Ex H H' ∧ H' D = some (.dK (vK W)) ∧ vW W = knotsV n (ks.take i) ∧ W.length ≤ i ∧ ∀ e ∈ W, H' e.2.1 = some (.tup (nvs e.2.2)) ∧ IsP n e.2.2) ⟨[], none, none, none, rfl, Ex.new hD, upd_same, rfl, Nat.le_refl _, fun e he => nomatch he⟩ (fun i σ H' _ hp => ?_) (fun i u σ H' hu hp => ?_) (fun σ H' hp => ?_)
    · obtain ⟨W, y3, y4, y5, rfl, e, _⟩ := hp
      exact sq_of (e _ _ hl)
    · obtain ⟨W, y3, y4, y5, rfl, e1, hDH, hW, hWl, hWe⟩ := hp
      have hi : i < us.length := (List.getElem?_eq_some_iff.mp hu).1
      have hik : i < ks.length := by rw [← hk.1]; exact hi
      obtain ⟨p, rfl, hp⟩ := hk.2 i u ks[i] hu (List.getElem?_eq_getElem hik)
      have hkn := hks ks[i] (List.getElem_mem hik)
      have htk : knotsV n (ks.take (i + 1)) = knotV n (knotsV n (ks.take i)) ks[i] := by
        unfold knotsV
        rw [List.take_add_one, List.getElem?_eq_getElem hik, List.foldl_append]
        rfl
      generalize ks[i] = k at hkn htk hp ⊢
      obtain ⟨t, x, y⟩ := k
      obtain ⟨k1, k2, k3, k4⟩ := hkn
      refine ⟨p, _, rfl, st_of (e1 _ _ hp), rfl, _, _, rfl, _, _, rfl, _, _, rfl, rfl, ?_⟩
      refine ⟨_, rfl, D, rfl, .inl ⟨_, .inl hDH⟩, _, rfl, _, rfl, n, rfl, hn, fun pa hpa => ⟨_, DGet.k (k := .inr t) (Ex.new hpa _ _ hDH), ?_⟩⟩
      have ea := Ex.new (o := .tup (nvs (alone n))) hpa
      obtain ⟨a0, p0, g1, g2, g3, g4⟩ : ∃ (a0 : Addr) (p0 : List Nat), ((valV (vK W) (.inr t)).getD (.ref pa)) = .ref a0 ∧ upd H' pa (.tup (nvs (alone n))) a0 = some (.tup (nvs p0)) ∧ IsP n p0 ∧ p0 = (wGet (vW W) t).getD (alone n) := by
        rw [vK_get, vW_get]
        cases hg : vGet W t with
        | none => exact ⟨pa, alone n, rfl, upd_same, isP_alone n, rfl⟩
        | some e =>
          have he := List.mem_of_find?_eq_some hg
          exact ⟨e.2.1, e.2.2, rfl, ea _ _ (hWe e he).1, (hWe e he).2, rfl⟩
      rw [g1]
      refine ⟨_, rfl, _, rfl, by show 2 ≤ sizeLine; decide, fun p2 hp2 => ⟨by show 1 ≤ sizeLine; decide, fun p3 hp3 => ?_⟩⟩
      have eb := Ex.new (o := .tup [.int (x : Nat), .int (y : Nat)]) hp2
      have ec := Ex.new (o := .lst [.ref p2]) hp3
      have hin : inN n [(x, y)] := fun xy h => by
        rw [List.mem_singleton.mp h]
        exact ⟨⟨k1, k2⟩, k3, k4⟩
      refine ⟨n, a0, p3, p0, [.ref p2], [(x, y)], rfl, hn, st_of (ec _ _ (eb _ _ g2)), g3, sq_of upd_same, ⟨rfl, fun j v hv => ?_⟩, hin, fun r H9 e9 hr9 hr => ?_⟩
      · cases j with
        | zero =>
          cases hv
          exact ⟨p2, (x, y), rfl, rfl, st_of (ec _ _ upd_same)⟩
        | succ j => cases hv
      · have e10 := ((ea.trans eb).trans ec).trans e9
        have hD9 := e10 _ _ hDH
        refine ⟨_, rfl, _, rfl, D, _, rfl, DPut.k (k := .inr t) hD9 ?_, ?_⟩
        · unfold vK
          rw [List.length_map]
          exact sz_lt (by have := hk.1; omega)
        · rw [vK_put (p := mrgs p0 [(x, y)])]
          refine ⟨vPut W t r (mrgs p0 [(x, y)]), _, _, _, rfl, (e1.trans e10).mut hD, upd_same, ?_, Nat.le_trans vPut_len (by omega), ?_⟩
          · rw [← vW_put, htk]
            unfold knotV
            rw [← hW, ← g4]
            rfl
          · have hr' : H9 r = some (.tup (nvs (mrgs p0 [(x, y)]))) := hr
            have keep : ∀ {a : Addr} {xs : List V}, H9 a = some (.tup xs) → upd H9 D (.dK (vK (vPut W t r (mrgs p0 [(x, y)])))) a = some (.tup xs) := fun {a xs} h => by
              rw [upd_ne fun z => by rw [z, hD9] at h; cases h]
              exact h
            exact vPut_all (Pp := fun a p => upd H9 D (.dK (vK (vPut W t r (mrgs p0 [(x, y)])))) a = some (.tup (nvs p)) ∧ IsP n p) (fun e he => ⟨keep (e10 _ _ (hWe e he).1), (hWe e he).2⟩) ⟨keep hr', isP_mrgs g3 hin⟩
    · obtain ⟨W, y3, y4, y5, rfl, e1, hDH, hW, hWl, hWe⟩ := hp
      rw [List.take_of_length_le (by rw [hk.1]; exact Nat.le_refl _)] at hW
      exact ⟨_, rfl, q D _ e1 hD ⟨W, hDH, hW, hWe⟩⟩
end
end Eyes

set_option Elab.async false
set_option linter.all false
set_option maxRecDepth 100000
/-! Joining: row by row is as all at once. -/
namespace Eyes
open PySem PySem.Spec PyProof.Rows L2
theorem mrgs_app (p : List Nat) (l k : List (Nat × Nat)) : mrgs p (l ++ k) = mrgs (mrgs p l) k := by
  unfold mrgs
  rw [List.foldl_append]
theorem mrg1_self (p : List Nat) (x : Nat) : mrg1 p x x = p := by
  unfold mrg1
  refine (List.map_congr_left fun z _ => ?_).trans (List.map_id p)
  by_cases g : z = max (itm p x) (itm p x)
  · rw [if_pos g, g]
    show min (itm p x) (itm p x) = max (itm p x) (itm p x)
    omega
  · rw [if_neg g]
    rfl
theorem mrgs_some {f : Nat × Nat → Bool} : ∀ {l : List (Nat × Nat)} {p : List Nat}, (∀ xy ∈ l, f xy = false → xy.1 = xy.2) → mrgs p (l.filter f) = mrgs p l
  | [], p, _ => rfl
  | xy :: l, p, h => by
    have ih := mrgs_some (f := f) (l := l) (p := mrg1 p xy.1 xy.2) fun z hz => h z (List.mem_cons_of_mem _ hz)
    cases hf : f xy with
    | true =>
      rw [List.filter_cons_of_pos hf]
      exact ih
    | false =>
      have e := h xy List.mem_cons_self hf
      have e2 : mrg1 p xy.1 xy.2 = p := by rw [e]; exact mrg1_self p _
      rw [List.filter_cons_of_neg (by rw [hf]; decide)]
      rw [e2] at ih
      rw [ih]
      show _ = mrgs (mrg1 p xy.1 xy.2) l
      rw [e2]
theorem numd_mem {n : Nat} {q : List Nat} {xy : Nat × Nat} (h : xy ∈ numd n q) : 1 ≤ xy.1 ∧ xy.1 ≤ n ∧ xy.2 = itm q xy.1 := by
  unfold numd at h
  obtain ⟨k, hk, rfl⟩ := List.mem_map.mp h
  have := List.mem_range.mp hk
  exact ⟨by omega, by omega, rfl⟩
theorem mem_numd {n : Nat} {q : List Nat} {x : Nat} (h1 : 1 ≤ x) (h2 : x ≤ n) : (x, itm q x) ∈ numd n q := by
  unfold numd
  refine List.mem_map.mpr ⟨x - 1, List.mem_range.mpr (by omega), ?_⟩
  rw [show x - 1 + 1 = x by omega]
theorem mrgs_less {n : Nat} {p q : List Nat} (hq : IsP n q) : mrgs p (less n q) = mrgs p (numd n q) :=
  mrgs_some fun xy hxy hf => by
    obtain ⟨h1, h2, h3⟩ := numd_mem hxy
    have h4 := hq.lo xy.1 h1 h2
    have h5 : ¬ xy.2 < xy.1 := of_decide_eq_false hf
    omega
theorem joined_fold {n : Nat} {p : List Nat} : ∀ {l : List (List Nat)}, (∀ q ∈ l, IsP n q) → mrgs p (l.flatMap (less n)) = l.foldl (fun f q => mrgs f (numd n q)) p
  | [], _ => rfl
  | q :: l, h => by
    rw [List.flatMap_cons, mrgs_app, mrgs_less (h q List.mem_cons_self)]
    exact joined_fold fun z hz => h z (List.mem_cons_of_mem _ hz)
theorem joined_one {n : Nat} {p : List Nat} (h : IsP n p) : mrgs (alone n) (numd n p) = p := by
  refine mrgs_same (l := numd n p) (k := []) (isP_alone n) h (numd_in h) (fun z hz => by cases hz) (fun u v h1 h2 h3 h4 e => ?_) (fun xy hxy => ?_) (fun u v h1 h2 h3 h4 e => ?_) (fun z hz => by cases hz)
  · unfold ali at e ⊢
    rw [itm_alone h1 h2, itm_alone h3 h4] at e
    rw [e]
  · obtain ⟨h1, h2, h3⟩ := numd_mem hxy
    unfold ali
    rw [h3]
    exact (h.rt _ h1 h2).symm
  · have a := mrgs_joins (isP_alone n) (numd_in h) (mem_numd (q := p) h1 h2)
    have b := mrgs_joins (isP_alone n) (numd_in h) (mem_numd (q := p) h3 h4)
    unfold ali at a b ⊢
    have e : itm p u = itm p v := e
    rw [a, b]
    show itm _ (itm p u) = itm _ (itm p v)
    rw [e]
theorem joined_cons {n : Nat} {p : List Nat} {l : List (List Nat)} (hp : IsP n p) (h : ∀ q ∈ l, IsP n q) : mrgs (alone n) ((p :: l).flatMap (less n)) = l.foldl (fun f q => mrgs f (numd n q)) p := by
  rw [joined_fold fun z hz => by
    rcases List.mem_cons.mp hz with rfl | hz
    · exact hp
    · exact h z hz]
  show l.foldl _ (mrgs (alone n) (numd n p)) = _
  rw [joined_one hp]
end Eyes

set_option Elab.async false
set_option linter.all false
set_option maxRecDepth 100000
/-! What is_parting takes for a parting is one. -/
namespace Eyes
open PySem PySem.Spec PyProof.Rows L2
def ndats (p : List Nat) : List PyData := p.map fun x : Nat => PyData.int (x : Int)
theorem ndats_get {p : List Nat} {i x : Nat} (h : p[i]? = some x) : (ndats p)[i]? = some (.int (x : Int)) := by
  unfold ndats
  rw [List.getElem?_map, h]
  rfl
theorem reps_ndats {H : Hp} : ∀ p : List Nat, Reps H (nvs p) (ndats p)
  | [] => .nil
  | _ :: p => .cons (.int _) (reps_ndats p)
theorem shaped_ndats {p : List Nat} : ∀ e ∈ ndats p, SeqAt.shaped e = true := fun e he => by
  obtain ⟨x, _, rfl⟩ := List.mem_map.mp he
  rfl
theorem eqv_int {i j : Int} : PyData.eqv (.int i) (.int j) = decide (i = j) := by
  show (i == j) = decide (i = j)
  rw [Bool.eq_iff_iff]
  simp
theorem partD_of {n : Nat} {p : List Nat} (h : IsP n p) (h1 : 1 ≤ n) : partD (.tuple (ndats p)) = true := by
  show (decide (ndats p ≠ []) && (List.range (ndats p).length).all fun k => itemD (ndats p) k) = true
  have hl : (ndats p).length = n := by
    unfold ndats
    rw [List.length_map]
    exact h.len
  rw [Bool.and_eq_true, hl, List.all_eq_true]
  refine ⟨decide_eq_true fun z => by rw [z] at hl; simp at hl; omega, fun k hk => ?_⟩
  have hk := List.mem_range.mp hk
  have lo := h.lo (k + 1) (by omega) (by omega)
  have g := ndats_get (itm_get (p := p) (x := k + 1) (by omega) (by rw [h.len]; omega))
  rw [Nat.add_sub_cancel] at g
  have g2 := ndats_get (itm_get (p := p) (x := itm p (k + 1)) lo.1 (by rw [h.len]; omega))
  have e : (((itm p (k + 1) : Nat) : Int) - 1).toNat = itm p (k + 1) - 1 := by omega
  rw [itemD_int g (by
    show (decide ((1 : Int) ≤ (itm p (k + 1) : Nat)) && decide (((itm p (k + 1) : Nat) : Int) ≤ (k : Int) + 1)) = true
    rw [Bool.and_eq_true]
    exact ⟨decide_eq_true (by omega), decide_eq_true (by omega)⟩) (e := .int (itm p (itm p (k + 1)) : Nat)) (by rw [e]; exact g2), eqv_int, h.rt (k + 1) (by omega) (by omega)]
  exact decide_eq_true rfl
end Eyes

set_option Elab.async false
set_option linter.all false
set_option maxRecDepth 100000
set_option maxHeartbeats 4000000
/-! What is seen of the views: the names in their order, without those that part nothing. -/
namespace Eyes
open PySem PySem.Spec PyProof.Rows L2 Evl TL
theorem shaped_tup (l : List Nat) : SeqAt.shaped (.tuple (ndats l)) = true := by
  have h := shaped_nats l
  unfold SeqAt.shaped at h ⊢
  exact h
theorem eqvAll_nats : ∀ p q : List Nat, PyData.eqvAll (ndats p) (ndats q) = decide (p = q)
  | [], [] => by
    rw [decide_eq_true rfl]
    rfl
  | [], y :: q => by
    rw [decide_eq_false (by simp)]
    rfl
  | x :: p, [] => by
    rw [decide_eq_false (by simp)]
    rfl
  | x :: p, y :: q => by
    show (((x : Int) == (y : Int)) && PyData.eqvAll (ndats p) (ndats q)) = _
    rw [eqvAll_nats p q]
    by_cases h : x = y
    · subst h
      simp
    · have h2 : ((x : Int) == (y : Int)) = false := by
        rw [beq_eq_false_iff_ne]
        exact fun z => h (Int.ofNat.inj z)
      rw [h2, Bool.false_and]
      exact (decide_eq_false (by simp [h])).symm
theorem eqv_tup (p q : List Nat) : PyData.eqv (.tuple (ndats p)) (.tuple (ndats q)) = decide (p = q) := eqvAll_nats p q
def seen1 (n : Nat) (f : Vw) (t : Str) : Option (Str × List Nat) := (wGet f t).bind fun p => if p = alone n then none else some (t, p)
def seenV (n : Nat) (f : Vw) (ys : List Str) : Vw := ys.filterMap (seen1 n f)
theorem wGet_mem {f : Vw} {t : Str} (h : t ∈ f.map (·.1)) : ∃ p, wGet f t = some p := by
  obtain ⟨e, he, rfl⟩ := List.mem_map.mp h
  unfold wGet
  cases hf : f.find? fun x => decide (x.1 = e.1) with
  | none =>
    have := List.find?_eq_none.mp hf e he
    simp at this
  | some x => exact ⟨x.2, rfl⟩
theorem wPut_new {f : Vw} {t : Str} {p : List Nat} (h : ∀ e ∈ f, e.1 ≠ t) : wPut f t p = f ++ [(t, p)] := by
  unfold wPut
  rw [if_neg]
  intro z
  obtain ⟨e, he, h2⟩ := List.any_eq_true.mp z
  exact h e he (of_decide_eq_true h2)
def spSeen (K : PySem.W.Frag) : Sp := fun vs H Q _ => ∃ (n : Nat) (l : Addr) (f : Vw), vs = [.int (n : Int), .ref l] ∧ n ≤ 4096 ∧ VwAt H l n f ∧ f.length < 64 ∧ (f.map (·.1)).Nodup ∧
  ∀ D H' ys, Ex H H' → H D = none → ys.Perm (f.map (·.1)) → sortedS ys = true → VwAt H' D n (seenV n f ys) → Q (.ref D) H'
section
variable {P : Program} {w : World} {K : PySem.W.Frag} {mg : Str → Option Value} {base : Heap} {AA : Adr}
theorem ok_law_seen (T : Txt K mg AA) : Pr P w K mg base "_law_seen" s_law_seen p_law_seen 4 (spSeen K) := by
  refine pr_mk T.f_law_seen sc_law_seen (fun vs H Q E h => ?_) (fun f cdv A outer s H vs Q E hr h => ?_)
  · obtain ⟨n, l, f, rfl, _⟩ := h
    rfl
  · obtain ⟨n, l, f, rfl, hn, ⟨W, hWl, hWf, hWe⟩, hfl, hnd, q⟩ := h
    refine ⟨_, (pss_cons (ps_set (i := 2) sc_law_seen.nd rfl (.inl rfl) pe_dnewK)
      (pss_cons (ps_for PassesOwn.never rfl (pi_list (pe_callB cr_sortedS (by rfl) T.n_sorted PyProof.Rows.boot_sorted (pa_cons (pe_callTy (call_list_dK rfl) (by rfl) T.n_list PyProof.Rows.boot_list (pa_cons (pv 1) pa_nil)) pa_nil))) (pg_name (i := 3) sc_law_seen.nd rfl (.inl rfl))
      (pss_one (ps_if (pt_cmpR (op_neD hr.units) (pe_dget (hu_of hr) (pv 1) (pv 3) (fun _ _ => rfl)) (pcall (ok_law_alone T) hr (pa_cons (pv 0) pa_nil)) (nomark _))
      (pss_one (ps_dput (hu_of hr) (pv 2) (pv 3) (pe_dget (hu_of hr) (pv 1) (pv 3) (fun _ _ => rfl)) rfl))
      pss_nil)))
      (pss_one (ps_ret (pv 2))))), ?_⟩
    refine fun D hD => ⟨_, rfl, l, _, rfl, Ex.new hD _ _ hWl, fun q1 hq1 => ?_⟩
    have e1 := Ex.new (o := .dK []) hD
    have hnm : (vK W).map (fun kv => kV kv.1) = (f.map (·.1)).map V.str := by
      rw [← hWf]
      unfold vK vW
      rw [List.map_map, List.map_map, List.map_map]
      rfl
    rw [hnm]
    have e2 := Ex.new (o := .lst ((f.map (·.1)).map V.str)) hq1
    refine ⟨q1, f.map (·.1), rfl, sq_of upd_same, by rw [List.length_map]; exact hfl, fun ys q2 hys hso hq2 => ?_⟩
    have e3 := Ex.new (o := .lst (ys.map V.str)) hq2
    have hD3 := e3 _ _ (e2 _ _ (upd_same (H := H) (a := D) (o := .dK [])))
    have e13 := (e1.trans e2).trans e3
    have hyn : ys.Nodup := hys.nodup_iff.mpr hnd
    refine ⟨q2, rfl, ⟨_, sq_of upd_same⟩, for_list (xs := ys.map V.str) (fun i σ H' => ∃ (W2 : List VRow) (y3 : Option V), σ = [some (.int (n : Int)), some (.ref l), some (.ref D), y3] ∧ Ex H H' ∧ H' q2 = some (.lst (ys.map V.str)) ∧ H' D = some (.dK (vK W2)) ∧ vW W2 = seenV n f (ys.take i) ∧ W2.length ≤ i ∧ (∀ e ∈ W2, e.1 ∈ ys.take i) ∧ ∀ e ∈ W2, H' e.2.1 = some (.tup (nvs e.2.2)) ∧ IsP n e.2.2) ⟨[], none, rfl, e13, upd_same, hD3, rfl, Nat.le_refl _, (fun e he => nomatch he), fun e he => nomatch he⟩ (fun i σ H' _ hp => ?_) (fun i u σ H' hu hp => ?_) (fun σ H' hp => ?_)⟩
    · obtain ⟨W2, y3, rfl, _, h2, _⟩ := hp
      exact sq_of h2
    · obtain ⟨W2, y3, rfl, x1, h2, h3, h4, h5, h6, h7⟩ := hp
      rw [List.getElem?_map] at hu
      obtain ⟨t, ht, rfl⟩ := Option.map_eq_some_iff.mp hu
      have hil : i < ys.length := (List.getElem?_eq_some_iff.mp ht).1
      have htm : t ∈ f.map (·.1) := hys.mem_iff.mp (List.mem_of_getElem? ht)
      obtain ⟨p, hp⟩ := wGet_mem htm
      have hp2 := hp
      rw [← hWf, vW_get] at hp2
      obtain ⟨e, he, hep⟩ := Option.map_eq_some_iff.mp hp2
      have hem := List.mem_of_find?_eq_some he
      have hget : valV (vK W) (.inr t) = some (.ref e.2.1) := by
        rw [vK_get]
        show Option.map _ (vGet W t) = _
        rw [he]
        rfl
      have htk : seenV n f (ys.take (i + 1)) = seenV n f (ys.take i) ++ (if p = alone n then [] else [(t, p)]) := by
        unfold seenV
        rw [List.take_add_one, ht, List.filterMap_append]
        refine congrArg (fun z => _ ++ z) ?_
        show List.filterMap _ [t] = _
        by_cases h : p = alone n
        · have z : seen1 n f t = none := by
            unfold seen1
            rw [hp]
            exact if_pos h
          rw [List.filterMap_cons_none z, if_pos h]
          rfl
        · have z : seen1 n f t = some (t, p) := by
            unfold seen1
            rw [hp]
            exact if_neg h
          rw [List.filterMap_cons_some z, if_neg h]
          rfl
      have heP : H' e.2.1 = some (.tup (nvs p)) := by
        rw [← hep]
        exact x1 _ _ (hWe e hem).1
      refine ⟨_, rfl, _, rfl, l, .ref e.2.1, rfl, by rw [← hget]; exact DGet.k (k := .inr t) (x1 _ _ hWl), _, rfl, n, rfl, hn, fun pa hpa => ?_⟩
      have ea := Ex.new (o := .tup (nvs (alone n))) hpa
      refine ⟨.tuple (ndats p), .tuple (ndats (alone n)), .tup (st_of (ea _ _ heP)) (dp_nats _), .tup (st_of upd_same) (dp_nats _), shaped_tup _, shaped_tup _, ?_⟩
      rw [eqv_tup]
      by_cases h : p = alone n
      · rw [decide_eq_true h]
        refine ⟨_, rfl, iteF ⟨W2, _, rfl, x1.trans ea, ea _ _ h2, ea _ _ h3, ?_, by omega, fun e he => ?_, fun e he => ⟨ea _ _ (h7 e he).1, (h7 e he).2⟩⟩⟩
        · rw [h4, htk, if_pos h, List.append_nil]
        · rw [List.take_add_one]
          exact List.mem_append_left _ (h6 e he)
      · rw [decide_eq_false h]
        have h3' := ea _ _ h3
        refine ⟨_, rfl, iteT ⟨_, rfl, _, rfl, l, .ref e.2.1, rfl, by rw [← hget]; exact DGet.k (k := .inr t) (ea _ _ (x1 _ _ hWl)), _, rfl, _, rfl, D, _, rfl, DPut.k (k := .inr t) h3' ?_, ?_⟩⟩
        · unfold vK
          rw [List.length_map]
          exact sz_lt (by have := hys.length_eq; rw [List.length_map] at this; omega)
        · rw [vK_put (p := p)]
          have hnew : ∀ x ∈ vW W2, x.1 ≠ t := fun x hx z => by
            obtain ⟨y, hy, rfl⟩ := List.mem_map.mp hx
            have hm := h6 y hy
            have hm : t ∈ ys.take i := by
              rw [← z]
              exact hm
            obtain ⟨j, hj, hjt⟩ := List.getElem_of_mem hm
            rw [List.getElem_take] at hjt
            have hji : j < i := by
              rw [List.length_take] at hj
              omega
            have e5 : ys[i] = t := by
              have := List.getElem?_eq_getElem hil
              rw [ht] at this
              exact (Option.some.inj this).symm
            exact List.pairwise_iff_getElem.mp hyn j i (by omega) hil hji (hjt.trans e5.symm)
          have keep : ∀ {a : Addr} {xs : List V}, upd H' pa (.tup (nvs (alone n))) a = some (.tup xs) → upd (upd H' pa (.tup (nvs (alone n)))) D (.dK (vK (vPut W2 t e.2.1 p))) a = some (.tup xs) := fun {a xs} g => by
            rw [upd_ne fun z => by rw [z, h3'] at g; cases g]
            exact g
          refine ⟨vPut W2 t e.2.1 p, _, rfl, (x1.trans ea).mut hD, ?_, upd_same, ?_, Nat.le_trans vPut_len (by omega), fun x hx => ?_, vPut_all (Pp := fun a p2 => upd (upd H' pa (.tup (nvs (alone n)))) D (.dK (vK (vPut W2 t e.2.1 p))) a = some (.tup (nvs p2)) ∧ IsP n p2) (fun x hx => ⟨keep (ea _ _ (h7 x hx).1), (h7 x hx).2⟩) ⟨keep (ea _ _ heP), by rw [← hep]; exact (hWe e hem).2⟩⟩
          · rw [upd_ne fun z => by rw [z, h3] at h2; cases h2]
            exact ea _ _ h2
          · rw [← vW_put, wPut_new hnew, h4, htk, if_neg h]
          · rw [List.take_add_one, ht]
            have : (x.1, x.2.2) ∈ vW (vPut W2 t e.2.1 p) := List.mem_map.mpr ⟨x, hx, rfl⟩
            rw [← vW_put, wPut_new hnew] at this
            rcases List.mem_append.mp this with g | g
            · obtain ⟨y, hy, z⟩ := List.mem_map.mp g
              have z1 : y.1 = x.1 := (Prod.mk.inj z).1
              exact List.mem_append_left _ (by rw [← z1]; exact h6 y hy)
            · have z1 : x.1 = t := (Prod.mk.inj (List.mem_singleton.mp g)).1
              rw [z1]
              exact List.mem_append_right _ List.mem_cons_self
    · obtain ⟨W2, y3, rfl, x1, h2, h3, h4, h5, h6, h7⟩ := hp
      rw [List.length_map, List.take_length] at h4
      exact ⟨_, rfl, q D _ ys x1 hD hys hso ⟨W2, h3, h4, h7⟩⟩
end
end Eyes

set_option Elab.async false
set_option linter.all false
set_option maxRecDepth 100000
set_option maxHeartbeats 4000000
/-! (x, ..) * 1 is the tuple itself. -/
namespace Eyes
open PySem PySem.Spec PyProof.Rows L2
theorem tuple_mul1 (l : Addr) (items : Array Value) (n : Nat) (dd : Option Addr) (sl : Array (Option Value)) (u : Tok) :
    Meets (Builtin.«tuple.__mul__» ⟨[.ref l, .int 1 u], []⟩) (fun _ R s => s.heap.get? l = some { cls := .type "tuple", dict := dd, data := .seq items n, slots := sl } ∧ R (.ok (.ret (Value.ref l))) s) :=
  .of_wp fun prog w A R s h => by
    obtain ⟨hp, g, d, tk, os⟩ := s
    obtain ⟨hl, h⟩ := h
    have f1 := AutoSeq1.idx_int
    have c1 : (items.isEmpty || (1 : Int) == 1) = true := by simp
    wp_walk using wpAny_loadPart' hl
    all_goals exact ⟨_, rfl, h⟩
def rRep1 (K : PySem.W.Frag) : R2 := fun x y H Q => ∃ l xs, x = .ref l ∧ y = .int 1 ∧ SqT K H l xs ∧ Q (.ref l) H
section
variable {X : Cx}
theorem op_rep1 : OpR X (binaryOp .Mult) (rRep1 X.K) := by
  intro pins s σ H x y v u Q I rx ry h
  obtain ⟨l, xs, rfl, rfl, hT, q⟩ := h
  cases rx
  obtain ⟨t, rfl⟩ := ry
  obtain ⟨its, r, ⟨⟨cls, dd, data, sl⟩, ho, hc, n, hd⟩, hs⟩ := I.tuple hT
  simp only at hc hd
  subst hc hd
  exact wpAny_binaryOp_repeat_ref (T := "tuple") (U := "int") (by decide) ⟨_, ho, rfl⟩ (fun s' => typeIs_int s' 1 t) noFill_tuple_mul F.fills_int_mul F.slot_int_rmul repeat_tuple F.slot_int_index.lookup
    (call_meets F.slot_int_rmul (typeIs_int s 1 t) F.entry_int_rmul (F.args_int_rmul_2 _ _) (int_rmul_tuple 1 t l its.toArray n dd sl)
      ⟨ho, rfl, ⟨_, ho, rfl⟩, call_meets F.slot_tuple_mul ⟨_, ho, rfl⟩ F.entry_tuple_mul (F.args_tuple_mul_2 _ _) (tuple_mul1 l its.toArray n dd sl t) ⟨ho, .ref l, H, I, rfl, q⟩⟩)
end
end Eyes

set_option Elab.async false
set_option linter.all false
set_option maxRecDepth 100000
set_option maxHeartbeats 8000000
/-! sorted(set(xs)), xs a list of numbers. -/
namespace Eyes
open PySem PySem.Spec PyProof.Rows L2
section
variable {P : Program} {w : World} {A : Around} {E : Value → Shared → Prop} {s : Shared}
end
def tSortedSetI (K : PySem.W.Frag) (te : TE) : TE := fun σ H Q => te σ H fun x H1 => ∃ (a : Addr) (xs : List Int), x = .ref a ∧ SqL K H1 a (xs.map V.int) ∧ xs.length < 64 ∧
  ∀ (ys : List Int) (p : Addr), ys.Pairwise (· < ·) → (∀ y, y ∈ ys ↔ y ∈ xs) → ys.length ≤ xs.length → H1 p = none → Q (.ref p) (upd H1 p (.lst (ys.map V.int)))
section
variable {X : Cx} {K : PySem.W.Frag} {e : Expr} {te : TE} {p1 p2 q1 q2 : Pos}
end
end Eyes

set_option Elab.async false
set_option linter.all false
set_option maxRecDepth 100000
set_option maxHeartbeats 4000000
namespace Eyes
open PySem PySem.Spec PyProof.Rows L2 Evl TL
section
variable {X : Cx} {K : PySem.W.Frag} {o e : Expr} {es : List Expr} {to : TE} {t : TA} {name : Str} {apos cpos : Pos} {T id : String} {r : V → List V → Hp → VK → Prop}
end
def pairsD (p q : List Nat) (n : Nat) : List PyData := (List.range n).map fun k => .tuple [.int (itm p (k + 1) : Int), .int (itm q (k + 1) : Int)]
def spMetL (K : PySem.W.Frag) : Sp := fun vs H Q _ => ∃ (n : Nat) (a b : Addr) (p q : List Nat), vs = [.ref a, .ref b] ∧ SqT K H a (nvs p) ∧ SqT K H b (nvs q) ∧ IsP n p ∧ IsP n q ∧ 1 ≤ n ∧ n ≤ 4096 ∧ ∀ r H', Ex H H' → H r = none → H' r = some (.tup (nvs (metN n [p, q]))) → Q (.ref r) H'
section
variable {P : Program} {w : World} {K : PySem.W.Frag} {mg : Str → Option Value} {base : Heap} {AA : Adr}
end
end Eyes

set_option Elab.async false
set_option linter.all false
set_option maxRecDepth 100000
set_option maxHeartbeats 4000000
/-! What the law sees of a circle. -/
namespace Eyes
open PySem PySem.Spec PyProof.Rows L2 Evl TL
def foldP (n : Nat) (k : Bool) : List (List Nat) → List Nat
  | [] => alone n
  | p :: r => r.foldl (fun a q => if k = true then metN n [a, q] else mrgs a (numd n q)) p
mutual
def viewC (n : Nat) (f : Vw) : Ci → List Nat
  | .eye t => (wGet f t).getD (alone n)
  | .node k ps => foldP n k (viewL n f ps)
def viewL (n : Nat) (f : Vw) : List Ci → List (List Nat)
  | [] => []
  | c :: r => viewC n f c :: viewL n f r
end
theorem VwAt.get {H : Hp} {D : Addr} {n : Nat} {f : Vw} (h : VwAt H D n f) (t : Str) : ∃ kvs, H D = some (.dK kvs) ∧ ∀ (r : Addr) (H' : Hp), Ex H H' → H' r = some (.tup (nvs (alone n))) → ∃ a, (valV kvs (.inr t)).getD (.ref r) = .ref a ∧ H' a = some (.tup (nvs ((wGet f t).getD (alone n)))) := by
  obtain ⟨W, h1, h2, h3⟩ := h
  refine ⟨_, h1, fun r H' e hr => ?_⟩
  rw [vK_get, ← h2, vW_get]
  cases hg : vGet W t with
  | none => exact ⟨r, rfl, hr⟩
  | some x => exact ⟨x.2.1, rfl, e _ _ (h3 x (List.mem_of_find?_eq_some hg)).1⟩
theorem VwAt.isP {H : Hp} {D : Addr} {n : Nat} {f : Vw} (h : VwAt H D n f) (t : Str) : IsP n ((wGet f t).getD (alone n)) := by
  obtain ⟨W, h1, h2, h3⟩ := h
  rw [← h2, vW_get]
  cases hg : vGet W t with
  | none => exact isP_alone n
  | some x => exact (h3 x (List.mem_of_find?_eq_some hg)).2
theorem foldP_isP {n : Nat} {k : Bool} : ∀ {ps : List (List Nat)}, (∀ p ∈ ps, IsP n p) → IsP n (foldP n k ps)
  | [], _ => isP_alone n
  | p :: r, h => by
    have key : ∀ (r : List (List Nat)) (p : List Nat), IsP n p → (∀ q ∈ r, IsP n q) → IsP n (r.foldl (fun a q => if k = true then metN n [a, q] else mrgs a (numd n q)) p) := fun r => by
      induction r with
      | nil => exact fun p hp _ => hp
      | cons q r ih =>
        intro p hp hr
        refine ih _ ?_ fun x hx => hr x (List.mem_cons_of_mem _ hx)
        split
        · exact metN_isP n _
        · exact isP_mrgs hp (numd_in (hr q List.mem_cons_self))
    exact key r p (h p List.mem_cons_self) fun q hq => h q (List.mem_cons_of_mem _ hq)
mutual
theorem viewC_isP {n : Nat} {f : Vw} (hf : ∀ t, IsP n ((wGet f t).getD (alone n))) : ∀ c : Ci, IsP n (viewC n f c)
  | .eye t => hf t
  | .node k ps => foldP_isP (viewL_isP hf ps)
theorem viewL_isP {n : Nat} {f : Vw} (hf : ∀ t, IsP n ((wGet f t).getD (alone n))) : ∀ ps : List Ci, ∀ p ∈ viewL n f ps, IsP n p
  | [], p, hp => by cases hp
  | c :: r, p, hp => by
    rcases List.mem_cons.mp (show p ∈ viewC n f c :: viewL n f r from hp) with rfl | hp
    · exact viewC_isP hf c
    · exact viewL_isP hf r p hp
end
def spView (K : PySem.W.Frag) (m : Nat) : Sp := fun vs H Q _ => ∃ (n : Nat) (l : Addr) (f : Vw) (v : V) (c : Ci), vs = [.int (n : Int), .ref l, v] ∧ 1 ≤ n ∧ n ≤ 4096 ∧ VwAt H l n f ∧ Rep H v c.data ∧ c.depth < m ∧ c.norm ∧ ∀ r H', Ex H H' → H' r = some (.tup (nvs (viewC n f c))) → Q (.ref r) H'
section
variable {P : Program} {w : World} {K : PySem.W.Frag} {mg : Str → Option Value} {base : Heap} {AA : Adr}
end
end Eyes

set_option Elab.async false
set_option linter.all false
/-! A sorted order of texts is the only one. -/
namespace Eyes
open PySem PySem.Spec PyProof.Rows
def leC (a b : List Nat) : Prop := ltCps b a = false
theorem ltC_total : ∀ a b : List Nat, ltCps a b = false → ltCps b a = false → a = b
  | [], [], _, _ => rfl
  | [], _ :: _, h, _ => by cases h
  | _ :: _, [], _, h => by cases h
  | x :: a, y :: b, h1, h2 => by
    have h1 : (decide (x < y) || (x == y && ltCps a b)) = false := h1
    have h2 : (decide (y < x) || (y == x && ltCps b a)) = false := h2
    obtain ⟨c1, d1⟩ := Bool.or_eq_false_iff.mp h1
    obtain ⟨c2, d2⟩ := Bool.or_eq_false_iff.mp h2
    have e1 := of_decide_eq_false c1
    have e2 := of_decide_eq_false c2
    obtain rfl : x = y := by omega
    rw [beq_self_eq_true, Bool.true_and] at d1 d2
    rw [ltC_total a b d1 d2]
theorem leC_trans : ∀ {a b c : List Nat}, leC a b → leC b c → leC a c
  | [], _, [], _, _ => rfl
  | [], _, _ :: _, _, _ => rfl
  | _ :: _, [], _, h, _ => by cases (show true = false from h)
  | _ :: _, _ :: _, [], _, h => by cases (show true = false from h)
  | x :: a, y :: b, z :: c, h1, h2 => by
    have h1 : (decide (y < x) || (y == x && ltCps b a)) = false := h1
    have h2 : (decide (z < y) || (z == y && ltCps c b)) = false := h2
    show (decide (z < x) || (z == x && ltCps c a)) = false
    obtain ⟨c1, d1⟩ := Bool.or_eq_false_iff.mp h1
    obtain ⟨c2, d2⟩ := Bool.or_eq_false_iff.mp h2
    have e1 := of_decide_eq_false c1
    have e2 := of_decide_eq_false c2
    refine Bool.or_eq_false_iff.mpr ⟨decide_eq_false (by omega), ?_⟩
    by_cases h : z = x
    · obtain rfl : y = x := by omega
      subst h
      rw [beq_self_eq_true, Bool.true_and] at d1 d2 ⊢
      exact leC_trans (a := a) (b := b) (c := c) d1 d2
    · rw [show (z == x) = false by simpa using h]
      rfl
theorem rising_pw : ∀ (p : Str) (l : List Str), risingS p l = true → (p :: l).Pairwise fun a b => leC a.cps.toList b.cps.toList
  | p, [], _ => List.pairwise_cons.mpr ⟨(fun _ h => nomatch h), .nil⟩
  | p, x :: r, h => by
    obtain ⟨h1, h2⟩ := Bool.and_eq_true_iff.mp (show (!ltCps x.cps.toList p.cps.toList && risingS x r) = true from h)
    have ih := rising_pw x r h2
    have hpx : leC p.cps.toList x.cps.toList := by
      unfold leC
      cases e : ltCps x.cps.toList p.cps.toList with
      | false => rfl
      | true => rw [e] at h1; cases h1
    refine List.pairwise_cons.mpr ⟨fun y hy => ?_, ih⟩
    rcases List.mem_cons.mp hy with rfl | hy
    · exact hpx
    · exact leC_trans hpx (List.rel_of_pairwise_cons ih hy)
theorem sortedS_pw : ∀ {l : List Str}, sortedS l = true → l.Pairwise fun a b => leC a.cps.toList b.cps.toList
  | [], _ => .nil
  | x :: r, h => rising_pw x r h
theorem str_cps {a b : Str} (h : a.cps.toList = b.cps.toList) : a = b := by
  cases a
  cases b
  exact congrArg _ (Array.toList_inj.mp h)
theorem srt_one : ∀ {l m : List Str}, l.Perm m → (l.Pairwise fun a b => leC a.cps.toList b.cps.toList) → (m.Pairwise fun a b => leC a.cps.toList b.cps.toList) → l = m
  | [], m, h, _, _ => (List.nil_perm.mp h).symm ▸ rfl
  | x :: l, [], h, _, _ => by cases (List.perm_nil.mp h)
  | x :: l, y :: m, h, h1, h2 => by
    have e : x = y := by
      have hx : x ∈ y :: m := h.mem_iff.mp List.mem_cons_self
      have hy : y ∈ x :: l := h.mem_iff.mpr List.mem_cons_self
      rcases List.mem_cons.mp hx with e | hx
      · exact e
      · rcases List.mem_cons.mp hy with e | hy
        · exact e.symm
        · exact str_cps (ltC_total _ _ (List.rel_of_pairwise_cons h2 hx) (List.rel_of_pairwise_cons h1 hy))
    subst e
    rw [srt_one (List.Perm.cons_inv h) (List.pairwise_cons.mp h1).2 (List.pairwise_cons.mp h2).2]
theorem sortedS_one {l m : List Str} (h : l.Perm m) (h1 : sortedS l = true) (h2 : sortedS m = true) : l = m := srt_one h (sortedS_pw h1) (sortedS_pw h2)
end Eyes

set_option Elab.async false
set_option linter.all false
set_option maxRecDepth 100000
set_option maxHeartbeats 4000000
namespace Eyes
open PySem PySem.Spec PyProof.Rows L2 Evl TL
theorem dc_by {J : It} {n : Nat} {GG : Hp → Prop} {Y : Nat → Hp → V → Hp → Prop} (w : Walk J n GG Y) {g : TG} {tt : L2.TT} {tk tv : TE} {vs : List Nat} {σ : L2.St} {H1 : Hp} {D : Addr} {Qd : Hp → Prop} (Pv : Nat → Hp → Prop) (h0 : Pv 0 (upd H1 D (.dK []))) (hG : ∀ i H, i ≤ n → Pv i H → GG H)
    (hs : ∀ i x H H', i < n → Pv i H → Y i H x H' → g x (wipe σ vs) H' fun σ2 H2 => wipe σ2 vs = wipe σ vs ∧ tt σ2 H2 fun b H3 =>
      if b = true then tk σ2 H3 fun y H4 => tv σ2 H4 fun z H5 => ∃ kvs k, y = kV k ∧ H5 D = some (.dK kvs) ∧ kvs.length < sizeLine ∧ Pv (i + 1) (upd H5 D (.dK (putK kvs k z))) else Pv (i + 1) H3) (hd : ∀ H, Pv n H → Qd H) :
    ∃ W : Nat → Nat → Hp → Prop, (∃ m, W 0 m (upd H1 D (.dK []))) ∧ ∀ i m H, W i m H →
      (J.stop i H ∧ Qd H) ∨ (J.go i H ∧ ∃ Nx : Hp → Prop, (∀ H', Nx H' → ∃ m', m' < m ∧ W (i + 1) m' H') ∧ ∀ x H', J.yld i H x H' → g x (wipe σ vs) H' fun σ2 H2 => wipe σ2 vs = wipe σ vs ∧ tt σ2 H2 fun b H3 =>
        if b = true then tk σ2 H3 fun y H4 => tv σ2 H4 fun z H5 => ∃ kvs k, y = kV k ∧ H5 D = some (.dK kvs) ∧ kvs.length < sizeLine ∧ Nx (upd H5 D (.dK (putK kvs k z))) else Nx H3) := by
  refine ⟨fun i m H => m = n - i ∧ i ≤ n ∧ Pv i H, ⟨n, rfl, Nat.zero_le _, h0⟩, ?_⟩
  rintro i m H ⟨rfl, hi, p⟩
  have q := hG i H hi p
  rcases Nat.lt_or_ge i n with hlt | hge
  · exact .inr ⟨w.goes i H hlt q, Pv (i + 1), fun H' p' => ⟨n - (i + 1), by omega, rfl, hlt, p'⟩, fun x H' y => hs i x H H' hlt p (w.yields i H x H' hlt q y)⟩
  · obtain rfl : i = n := Nat.le_antisymm hi hge
    exact .inl ⟨w.stops H q, hd H p⟩
theorem op_neDB {X : Cx} {K : PySem.W.Frag} (hK : X.K = K) (hu : X.A.units + 64 < cLine) : OpR X (compareOp .NotEq) (rNeD K) := hK ▸ op_neD hu
def spCounting (K : PySem.W.Frag) : Sp := fun vs H Q _ => ∃ (n : Nat) (l : Addr) (f : Vw), vs = [.int (n : Int), .ref l] ∧ n ≤ 4096 ∧ VwAt H l n f ∧ f.length < 64 ∧ (f.map (·.1)).Nodup ∧
  ∀ D H' ys, Ex H H' → H D = none → ys.Perm (f.map (·.1)) → sortedS ys = true → VwAt H' D n (seenV n f ys) → Q (.ref D) H'
def CtAt (H H' : Hp) (D : Addr) (n : Nat) (f : Vw) (ys : List Str) (i : Nat) : Prop := ∃ W2 : List VRow, Ex H H' ∧ H' D = some (.dK (vK W2)) ∧ vW W2 = seenV n f (ys.take i) ∧ W2.length ≤ i ∧ (∀ e ∈ W2, e.1 ∈ ys.take i) ∧ ∀ e ∈ W2, H' e.2.1 = some (.tup (nvs e.2.2)) ∧ IsP n e.2.2
section
variable {P : Program} {w : World} {K : PySem.W.Frag} {mg : Str → Option Value} {base : Heap} {AA : Adr}
theorem ok_counting (T : Txt K mg AA) : Pr P w K mg base "counting" s_counting p_counting 4 (spCounting K) := by
  refine pr_mk T.f_counting sc_counting (fun vs H Q E h => ?_) (fun f cdv A outer s H vs Q E hr h => ?_)
  · obtain ⟨n, l, f, rfl, _⟩ := h
    rfl
  · obtain ⟨n, l, f, rfl, hn, ⟨W, hWl, hWf, hWe⟩, hfl, hnd, q⟩ := h
    refine ⟨_, (pss_cons (ps_set (i := 2) sc_counting.nd rfl (.inr rfl) (pcall (ok_apart T) hr (pa_cons (pv 0) pa_nil)))
      (pss_one (ps_ret (pe_dc (own := [("name", 3)]) (g := gName 3) rfl sc_counting.nd (pi_list (pe_callB (call_sortedD rfl) (by rfl) T.n_sorted PyProof.Rows.boot_sorted (pa_cons (pv 1) pa_nil))) (blkOk_by (own := [("name", 3)]) (N := n_counting) (sc := defScope s_counting) (by decide +kernel)) (fun _ _ _ _ _ => (pg_name (i := 3) sc_counting.nd rfl (.inl rfl))) (fun _ _ _ _ _ => (pts_one (pt_cmpR (op_neDB (K := K) rfl hr.units) (pe_dget (hu_of hr) (pv 1) (pv 3) (fun _ _ => rfl)) (pv 2) (nomark _)))) (fun _ _ _ _ _ => (pv 3)) (fun _ _ _ _ _ => (pe_dget (hu_of hr) (pv 1) (pv 3) (fun _ _ => rfl))))))), ?_⟩
    refine ⟨_, rfl, n, rfl, hn, fun pa hpa => ?_⟩
    have e0 := Ex.new (o := .tup (nvs (alone n))) hpa
    have hal := upd_same (H := H) (a := pa) (o := HO.tup (nvs (alone n)))
    have hks : (vK W).map (·.1) = (f.map (·.1)).map Sum.inr := by
      rw [← hWf]
      unfold vK vW
      rw [List.map_map, List.map_map, List.map_map]
      rfl
    refine ⟨_, rfl, l, vK W, f.map (·.1), rfl, .inl (e0 _ _ hWl), hks, by rw [List.length_map]; exact hfl, fun ys q2 hys hso hq2 => ?_⟩
    have e1 := e0.trans (Ex.new (o := .lst (ys.map V.str)) hq2)
    have hal1 := Ex.new (o := .lst (ys.map V.str)) hq2 _ _ hal
    have hyn : ys.Nodup := hys.nodup_iff.mpr hnd
    refine ⟨q2, rfl, ⟨_, sq_of upd_same⟩, fun D hD => ?_⟩
    have hls := upd_same (H := upd H pa (.tup (nvs (alone n)))) (a := q2) (o := HO.lst (ys.map V.str))
    generalize upd (upd H pa (.tup (nvs (alone n)))) q2 (.lst (ys.map V.str)) = H1 at e1 hal1 hD hls ⊢
    clear hal e0 hpa hq2
    have hD0 := fresh_back e1 hD
    refine dc_by (walk_list (xs := ys.map V.str)) (fun i H' => Ex H1 H' ∧ CtAt H H' D n f ys i) ⟨Ex.new hD, [], e1.trans (Ex.new hD), upd_same, rfl, Nat.le_refl _, (fun e he => nomatch he), fun e he => nomatch he⟩ (fun i H' _ hp => sq_of (hp.1 _ _ hls)) (fun i u H3 H4 hi hp hy => ?_) (fun H' hp => ?_)
    · obtain ⟨rfl, hu⟩ := hy
      obtain ⟨x0, W2, x1, h3, h4, h5, h6, h7⟩ := hp
      rw [List.getElem?_map] at hu
      obtain ⟨t, ht, rfl⟩ := Option.map_eq_some_iff.mp hu
      have hil : i < ys.length := (List.getElem?_eq_some_iff.mp ht).1
      have htm : t ∈ f.map (·.1) := hys.mem_iff.mp (List.mem_of_getElem? ht)
      obtain ⟨p, hp⟩ := wGet_mem htm
      have hp2 := hp
      rw [← hWf, vW_get] at hp2
      obtain ⟨e, he, hep⟩ := Option.map_eq_some_iff.mp hp2
      have hem := List.mem_of_find?_eq_some he
      have hget : valV (vK W) (.inr t) = some (.ref e.2.1) := by
        rw [vK_get]
        show Option.map _ (vGet W t) = _
        rw [he]
        rfl
      have htk : seenV n f (ys.take (i + 1)) = seenV n f (ys.take i) ++ (if p = alone n then [] else [(t, p)]) := by
        unfold seenV
        rw [List.take_add_one, ht, List.filterMap_append]
        refine congrArg (fun z => _ ++ z) ?_
        show List.filterMap _ [t] = _
        by_cases h : p = alone n
        · have z : seen1 n f t = none := by
            unfold seen1
            rw [hp]
            exact if_pos h
          rw [List.filterMap_cons_none z, if_pos h]
          rfl
        · have z : seen1 n f t = some (t, p) := by
            unfold seen1
            rw [hp]
            exact if_neg h
          rw [List.filterMap_cons_some z, if_neg h]
          rfl
      have heP : H4 e.2.1 = some (.tup (nvs p)) := by
        rw [← hep]
        exact x1 _ _ (hWe e hem).1
      refine ⟨rfl, _, rfl, _, rfl, l, .ref e.2.1, rfl, by rw [← hget]; exact DGet.k (k := .inr t) (x1 _ _ hWl), _, rfl, .tuple (ndats p), .tuple (ndats (alone n)), .tup (st_of heP) (dp_nats _), .tup (st_of (x0 _ _ hal1)) (dp_nats _), shaped_tup _, shaped_tup _, ?_⟩
      rw [eqv_tup]
      by_cases h : p = alone n
      · rw [decide_eq_true h]
        refine ⟨_, rfl, iteF ⟨x0, W2, x1, h3, by rw [h4, htk, if_pos h, List.append_nil], by omega, fun e he => ?_, h7⟩⟩
        rw [List.take_add_one]
        exact List.mem_append_left _ (h6 e he)
      · rw [decide_eq_false h]
        have hnew : ∀ x ∈ vW W2, x.1 ≠ t := fun x hx z => by
          obtain ⟨y, hy, rfl⟩ := List.mem_map.mp hx
          have hm := h6 y hy
          have hm : t ∈ ys.take i := by
            rw [← z]
            exact hm
          obtain ⟨j, hj, hjt⟩ := List.getElem_of_mem hm
          rw [List.getElem_take] at hjt
          have hji : j < i := by
            rw [List.length_take] at hj
            omega
          have e5 : ys[i] = t := by
            have := List.getElem?_eq_getElem hil
            rw [ht] at this
            exact (Option.some.inj this).symm
          exact List.pairwise_iff_getElem.mp hyn j i (by omega) hil hji (hjt.trans e5.symm)
        have keep : ∀ {a : Addr} {xs : List V}, H4 a = some (.tup xs) → upd H4 D (.dK (vK (vPut W2 t e.2.1 p))) a = some (.tup xs) := fun {a xs} g => by
          rw [upd_ne fun z => by rw [z, h3] at g; cases g]
          exact g
        refine ⟨_, rfl, iteT ⟨_, rfl, _, rfl, _, rfl, l, .ref e.2.1, rfl, by rw [← hget]; exact DGet.k (k := .inr t) (x1 _ _ hWl), vK W2, .inr t, rfl, h3, ?_, ?_⟩⟩
        · unfold vK
          rw [List.length_map]
          exact sz_lt (by have := hys.length_eq; rw [List.length_map] at this; omega)
        · rw [vK_put (p := p)]
          refine ⟨x0.mut hD, vPut W2 t e.2.1 p, x1.mut hD0, upd_same, ?_, Nat.le_trans vPut_len (by omega), fun x hx => ?_, vPut_all (Pp := fun a p2 => upd H4 D (.dK (vK (vPut W2 t e.2.1 p))) a = some (.tup (nvs p2)) ∧ IsP n p2) (fun x hx => ⟨keep (h7 x hx).1, (h7 x hx).2⟩) ⟨keep heP, by rw [← hep]; exact (hWe e hem).2⟩⟩
          · rw [← vW_put, wPut_new hnew, h4, htk, if_neg h]
          · rw [List.take_add_one, ht]
            have : (x.1, x.2.2) ∈ vW (vPut W2 t e.2.1 p) := List.mem_map.mpr ⟨x, hx, rfl⟩
            rw [← vW_put, wPut_new hnew] at this
            rcases List.mem_append.mp this with g | g
            · obtain ⟨y, hy, z⟩ := List.mem_map.mp g
              have z1 : y.1 = x.1 := (Prod.mk.inj z).1
              exact List.mem_append_left _ (by rw [← z1]; exact h6 y hy)
            · have z1 : x.1 = t := (Prod.mk.inj (List.mem_singleton.mp g)).1
              rw [z1]
              exact List.mem_append_right _ List.mem_cons_self
    · obtain ⟨x0, W2, x1, h3, h4, h5, h6, h7⟩ := hp
      rw [List.length_map, List.take_length] at h4
      exact q D _ ys x1 hD0 hys hso ⟨W2, h3, h4, h7⟩
end
end Eyes

set_option Elab.async false
set_option linter.all false
set_option maxRecDepth 100000
set_option maxHeartbeats 4000000
/-! The program's own parting of ties: a table of names to pairs, then the pairs linked. -/
namespace Eyes
open PySem PySem.Spec PyProof.Rows L2 Evl TL
theorem nodup_inj {α β : Type} {f : α → β} : ∀ {l : List α}, (l.map f).Nodup → ∀ {x y : α}, x ∈ l → y ∈ l → f x = f y → x = y
  | [], _, x, _, hx, _, _ => nomatch hx
  | a :: l, h, x, y, hx, hy, e => by
    rw [List.map_cons, List.nodup_cons] at h
    rcases List.mem_cons.mp hx with h1 | h1
    · rcases List.mem_cons.mp hy with h2 | h2
      · rw [h1, h2]
      · exact absurd (List.mem_map.mpr ⟨y, h2, by rw [← e, h1]⟩) h.1
    · rcases List.mem_cons.mp hy with h2 | h2
      · exact absurd (List.mem_map.mpr ⟨x, h1, by rw [e, h2]⟩) h.1
      · exact nodup_inj h.2 h1 h2 e
theorem wPut_names {f : Vw} {t : Str} {p : List Nat} : (wPut f t p).map (·.1) = if t ∈ f.map (·.1) then f.map (·.1) else f.map (·.1) ++ [t] := by
  unfold wPut
  have e : ((f.any fun e => decide (e.1 = t)) = true) ↔ t ∈ f.map (·.1) := by
    rw [List.any_eq_true]
    constructor
    · rintro ⟨x, hx, h⟩
      exact List.mem_map.mpr ⟨x, hx, of_decide_eq_true h⟩
    · intro h
      obtain ⟨x, hx, h⟩ := List.mem_map.mp h
      exact ⟨x, hx, decide_eq_true h⟩
  by_cases h : t ∈ f.map (·.1)
  · rw [if_pos (e.mpr h), if_pos h, List.map_map]
    refine List.map_congr_left fun x _ => ?_
    show (if x.1 = t then (x.1, p) else x).1 = x.1
    split <;> rfl
  · rw [if_neg fun z => h (e.mp z), if_neg h, List.map_append]
    rfl
theorem knotsV_snoc {n : Nat} {ks : List Knot} {k : Knot} : knotsV n (ks ++ [k]) = knotV n (knotsV n ks) k := by
  unfold knotsV
  rw [List.foldl_append]
  rfl
theorem knotV_nodup {n : Nat} {f : Vw} {k : Knot} (h : (f.map (·.1)).Nodup) : ((knotV n f k).map (·.1)).Nodup := by
  unfold knotV
  rw [wPut_names]
  split
  · exact h
  · rename_i z
    refine List.nodup_append.mpr ⟨h, by simp, fun x hx y hy e => ?_⟩
    rw [List.mem_singleton.mp hy] at e
    rw [e] at hx
    exact z hx
theorem knotV_len {n : Nat} {f : Vw} {k : Knot} : (knotV n f k).length ≤ f.length + 1 := by
  have e : (knotV n f k).length = ((knotV n f k).map (·.1)).length := (List.length_map ..).symm
  rw [e]
  unfold knotV
  rw [wPut_names]
  split
  · rw [List.length_map]
    omega
  · rw [List.length_append, List.length_map]
    exact Nat.le_refl _
theorem knotsV_fold {n : Nat} : ∀ (ks : List Knot) (f : Vw), (f.map (·.1)).Nodup → ((ks.foldl (knotV n) f).map (·.1)).Nodup ∧ (ks.foldl (knotV n) f).length ≤ f.length + ks.length
  | [], f, h => ⟨h, Nat.le_refl _⟩
  | k :: ks, f, h => by
    have a := knotsV_fold (n := n) ks (knotV n f k) (knotV_nodup h)
    refine ⟨a.1, ?_⟩
    have := knotV_len (n := n) (f := f) (k := k)
    have := a.2
    show (ks.foldl (knotV n) (knotV n f k)).length ≤ _
    rw [List.length_cons]
    omega
theorem knotsV_nodup (n : Nat) (ks : List Knot) : ((knotsV n ks).map (·.1)).Nodup := (knotsV_fold ks [] List.nodup_nil).1
theorem knotsV_len (n : Nat) (ks : List Knot) : (knotsV n ks).length ≤ ks.length := by
  have := (knotsV_fold (n := n) ks [] List.nodup_nil).2
  rw [List.length_nil, Nat.zero_add] at this
  exact this
theorem knotsV_names {n : Nat} {ks : List Knot} {t : Str} : t ∈ (knotsV n ks).map (·.1) → ∃ k ∈ ks, k.1 = t := by
  have key : ∀ (ks : List Knot) (f : Vw), t ∈ (ks.foldl (knotV n) f).map (·.1) → t ∈ f.map (·.1) ∨ ∃ k ∈ ks, k.1 = t := by
    intro ks
    induction ks with
    | nil => exact fun f h => .inl h
    | cons k ks ih =>
      intro f h
      rcases ih _ h with h | ⟨x, hx, e⟩
      · unfold knotV at h
        rw [wPut_names] at h
        split at h
        · exact .inl h
        · rcases List.mem_append.mp h with h | h
          · exact .inl h
          · exact .inr ⟨k, List.mem_cons_self, (List.mem_singleton.mp h).symm⟩
      · exact .inr ⟨x, List.mem_cons_of_mem _ hx, e⟩
  exact fun h => (key ks [] h).resolve_left fun z => nomatch z
def TdRow (H : Hp) (n m : Nat) (e : VRow) : Prop := ∃ (us : List V) (l : List (Nat × Nat)), H e.2.1 = some (.lst us) ∧ us.length = l.length ∧ us.length ≤ m ∧ (∀ (i : Nat) v, us[i]? = some v → ∃ q xy, v = .ref q ∧ l[i]? = some xy ∧ H q = some (.tup [.int (xy.1 : Nat), .int (xy.2 : Nat)])) ∧ inN n l ∧ e.2.2 = mrgs (alone n) l
theorem TdRow.keep {H H' : Hp} {n m m' : Nat} {e : VRow} (h : TdRow H n m e) (h1 : ∀ us, H e.2.1 = some (.lst us) → H' e.2.1 = some (.lst us)) (h2 : ∀ q xs, H q = some (.tup xs) → H' q = some (.tup xs)) (hm : m ≤ m') : TdRow H' n m' e := by
  obtain ⟨us, l, a1, a2, a3, a4, a5, a6⟩ := h
  exact ⟨us, l, h1 _ a1, a2, Nat.le_trans a3 hm, fun i v hv => by
    obtain ⟨q, xy, e1, e2, e3⟩ := a4 i v hv
    exact ⟨q, xy, e1, e2, h2 _ _ e3⟩, a5, a6⟩
def TdAt (H H' : Hp) (D : Addr) (n m : Nat) (f : Vw) (W : List VRow) : Prop := Ex H H' ∧ H' D = some (.dK (vK W)) ∧ vW W = f ∧ W.length ≤ m ∧ (W.map (·.2.1)).Nodup ∧ ∀ e ∈ W, H e.2.1 = none ∧ e.2.1 ≠ D ∧ TdRow H' n m e
theorem vGet_name {W : List VRow} {t : Str} {e : VRow} (h : vGet W t = some e) : e.1 = t := by
  have := List.find?_some h
  exact of_decide_eq_true this
theorem vK_same {W : List VRow} {t : Str} {e : VRow} {p : List Nat} (h : vGet W t = some e) (nd : (W.map (·.1)).Nodup) : vK (vPut W t e.2.1 p) = vK W := by
  have he : e ∈ W := List.mem_of_find?_eq_some h
  have ht : e.1 = t := by
    have := List.find?_some h
    exact of_decide_eq_true this
  unfold vPut
  rw [if_pos (List.any_eq_true.mpr ⟨e, he, decide_eq_true ht⟩)]
  unfold vK
  rw [List.map_map]
  refine List.map_congr_left fun x hx => ?_
  by_cases hxt : x.1 = t
  · have : x = e := nodup_inj nd hx he (hxt.trans ht.symm)
    subst this
    simp [hxt]
  · simp [hxt]
theorem vGet_none {W : List VRow} {t : Str} (h : vGet W t = none) : ∀ x ∈ W, x.1 ≠ t := fun x hx z => by
  have := List.find?_eq_none.mp h x hx
  exact this (decide_eq_true z)
theorem vPut_new {W : List VRow} {t : Str} {a : Addr} {p : List Nat} (h : ∀ x ∈ W, x.1 ≠ t) : vPut W t a p = W ++ [(t, a, p)] := by
  unfold vPut
  rw [if_neg]
  intro z
  obtain ⟨e, he, h2⟩ := List.any_eq_true.mp z
  exact h e he (of_decide_eq_true h2)
def spTied (K : PySem.W.Frag) : Sp := fun vs H Q _ => ∃ (n : Nat) (a : Addr) (us : List V) (ks : List Knot), vs = [.int (n : Int), .ref a] ∧ n ≤ 4096 ∧ SqLT K H a us ∧ Knots H us ks ∧ ks.length ≤ 1000 ∧ (∀ k ∈ ks, 1 ≤ k.2.1 ∧ k.2.1 ≤ n ∧ 1 ≤ k.2.2 ∧ k.2.2 ≤ n) ∧
  ∀ D H', Ex H H' → H D = none → VwAt H' D n (knotsV n ks) → Q (.ref D) H'
section
variable {P : Program} {w : World} {K : PySem.W.Frag} {mg : Str → Option Value} {base : Heap} {AA : Adr}
theorem ok_tied_partings (T : Txt K mg AA) : Pr P w K mg base "tied_partings" s_tied_partings p_tied_partings 4 (spTied K) := by
  refine pr_mk T.f_tied_partings sc_tied_partings (fun vs H Q E h => ?_) (fun f cdv A outer s H vs Q E hr h => ?_)
  · obtain ⟨n, a, us, ks, rfl, _⟩ := h
    rfl
  · obtain ⟨n, a, us, ks, rfl, hn, ha, hk, hkl, hks, q⟩ := h
    refine ⟨_, (pss_cons (ps_set (i := 2) sc_tied_partings.nd rfl (.inr rfl) pe_dnewK)
      (pss_cons (ps_for PassesOwn.never rfl (pi_or (pi_list (pv 1)) (pi_tup (pv 1))) (pg_tup (by rfl) (pgs_cons (pg_name (i := 3) sc_tied_partings.nd rfl (.inl rfl)) (pgs_cons (pg_name (i := 4) sc_tied_partings.nd rfl (.inl rfl)) (pgs_cons (pg_name (i := 5) sc_tied_partings.nd rfl (.inl rfl)) pgs_nil))))
      (pss_one (ps_expr (pe_bm PySem.F.plainAttrs_list PySem.F.slot_list_append PySem.F.type_list_append mt_append (pe_dsetdA hr.units (pv 2) (pv 3) (pe_lst pa_nil) ⟨by rfl, by rfl, by rfl, by rfl⟩) (pa_cons (pe_tup (pa_cons (pv 4) (pa_cons (pv 5) pa_nil))) pa_nil)))))
      (pss_one (ps_ret (pe_lock (pe_dc (own := [("name", 3)]) (g := gName 3) (tt := tYes) rfl sc_tied_partings.nd (pi_keys (pv 2)) (blkOk_by (own := [("name", 3)]) (N := n_tied_partings) (sc := defScope s_tied_partings) (by decide +kernel)) (fun _ _ _ _ _ => (pg_name (i := 3) sc_tied_partings.nd rfl (.inl rfl))) (fun _ _ _ _ _ => pts_nil) (fun _ _ _ _ _ => (pv 3)) (fun _ _ _ _ _ => (pcall (ok_linked T) hr (pa_cons (pv 0) (pa_cons (pe_dget (hu_of hr) (pv 2) (pv 3) (fun _ _ => rfl)) pa_nil)))))))))), ?_⟩
    refine fun D hD => ?_
    refine for_lt (j := 1) rfl ha (Ex.new (o := .dK []) hD) (fun i σ H' => ∃ (W : List VRow) (y3 y4 y5 : Option V), σ = [some (.int (n : Int)), some (.ref a), some (.ref D), y3, y4, y5] ∧ TdAt H H' D n i (knotsV n (ks.take i)) W) ⟨[], none, none, none, rfl, Ex.new hD, upd_same, rfl, Nat.le_refl _, List.nodup_nil, fun e he => nomatch he⟩ (fun i σ H' hp => ?_) (fun i u σ H' hu hp => ?_) (fun σ H' hp => ?_) (fun _ _ => rfl)
    · obtain ⟨W, y3, y4, y5, rfl, e, _⟩ := hp
      exact e
    · obtain ⟨W, y3, y4, y5, rfl, e1, hDH, hW, hWl, hWn, hWe⟩ := hp
      have hi : i < us.length := (List.getElem?_eq_some_iff.mp hu).1
      have hik : i < ks.length := by rw [← hk.1]; exact hi
      obtain ⟨p, rfl, hp⟩ := hk.2 i u ks[i] hu (List.getElem?_eq_getElem hik)
      have hkn := hks ks[i] (List.getElem_mem hik)
      have htk : knotsV n (ks.take (i + 1)) = knotV n (knotsV n (ks.take i)) ks[i] := by
        rw [List.take_add_one, List.getElem?_eq_getElem hik]
        exact knotsV_snoc
      have hnn : (W.map (·.1)).Nodup := by
        have h := knotsV_nodup n (ks.take i)
        rw [← hW] at h
        unfold vW at h
        rw [List.map_map] at h
        exact h
      generalize ks[i] = k at hkn htk hp ⊢
      obtain ⟨t, x, y⟩ := k
      obtain ⟨k1, k2, k3, k4⟩ := hkn
      have hin : inN n [(x, y)] := fun xy h => by
        rw [List.mem_singleton.mp h]
        exact ⟨⟨k1, k2⟩, k3, k4⟩
      refine ⟨p, _, rfl, st_of (e1 _ _ hp), rfl, _, _, rfl, _, _, rfl, _, _, rfl, rfl, ?_⟩
      refine ⟨_, rfl, D, rfl, .inl ⟨_, .inl hDH⟩, _, rfl, by show 0 ≤ sizeLine; decide, fun nb hnb => ?_⟩
      have x2 : Ex H' (upd H' nb (.lst [])) := Ex.new hnb
      have hD4 := x2 _ _ hDH
      have e4 := e1.trans x2
      have nbH : H nb = none := fresh_back e1 hnb
      have nbD : nb ≠ D := fun z => by
        rw [z, hDH] at hnb
        cases hnb
      refine .inl ⟨_, Sum.inr t, hD4, rfl, ?_, fun v hv => ?_, fun hv => ?_⟩
      · unfold vK
        rw [List.length_map]
        exact sz_lt (by have := hk.1; omega)
      · rw [vK_get] at hv
        obtain ⟨e, he, rfl⟩ := Option.map_eq_some_iff.mp hv
        have hem := List.mem_of_find?_eq_some he
        have het : e.1 = t := vGet_name he
        obtain ⟨c1, c2, us0, l0, c3, c4, c5, c6, c7, c8⟩ := hWe e hem
        have c3' := x2 _ _ c3
        refine ⟨.inl ⟨rfl, us0, sq_of c3'⟩, _, rfl, _, rfl, by show 2 ≤ sizeLine; decide, fun p2 hp2 => ?_⟩
        have x3 := Ex.new (o := .tup [.int (x : Nat), .int (y : Nat)]) hp2
        have c3'' := x3 _ _ c3'
        have hp2e : p2 ≠ e.2.1 := fun z => by
          rw [z, c3'] at hp2
          cases hp2
        refine ⟨e.2.1, us0, _, rfl, rfl, c3'', sz_lt (by have := hk.1; omega), vPut W t e.2.1 (mrgs (alone n) (l0 ++ [(x, y)])), _, _, _, rfl, (e4.trans x3).mut c1, ?_, ?_, Nat.le_trans vPut_len (by omega), ?_, fun r hr => ?_⟩
        · rw [vK_same he hnn, upd_ne fun z => c2 z.symm]
          exact x3 _ _ hD4
        · rw [← vW_put, htk]
          unfold knotV
          rw [← hW, vW_get, he]
          show _ = wPut _ t (mrg1 e.2.2 x y)
          rw [c8, mrgs_snoc]
        · have ha : (vPut W t e.2.1 (mrgs (alone n) (l0 ++ [(x, y)]))).map (·.2.1) = W.map (·.2.1) := by
            have h := vK_same (p := mrgs (alone n) (l0 ++ [(x, y)])) he hnn
            have h2 := congrArg (List.map Prod.snd) h
            unfold vK at h2
            rw [List.map_map, List.map_map] at h2
            have h3 : ((vPut W t e.2.1 (mrgs (alone n) (l0 ++ [(x, y)]))).map (·.2.1)).map V.ref = (W.map (·.2.1)).map V.ref := by
              rw [List.map_map, List.map_map]
              exact h2
            exact List.map_inj_right (fun a b h => V.ref.inj h) |>.mp h3
          rw [ha]
          exact hWn
        · unfold vPut at hr
          rw [if_pos (List.any_eq_true.mpr ⟨e, hem, decide_eq_true het⟩)] at hr
          obtain ⟨r0, hr0, rfl⟩ := List.mem_map.mp hr
          by_cases hrt : r0.1 = t
          · rw [if_pos hrt]
            refine ⟨c1, c2, us0 ++ [.ref p2], l0 ++ [(x, y)], upd_same, by rw [List.length_append, List.length_append, c4]; rfl, by rw [List.length_append]; show us0.length + 1 ≤ i + 1; omega, fun j v hv => ?_, fun z hz => ?_, rfl⟩
            · have keep : ∀ {q xs}, (upd (upd H' nb (.lst [])) p2 (.tup [.int (x : Nat), .int (y : Nat)])) q = some (HO.tup xs) → (upd (upd (upd H' nb (.lst [])) p2 (.tup [.int (x : Nat), .int (y : Nat)])) e.2.1 (.lst (us0 ++ [.ref p2]))) q = some (.tup xs) := fun {q xs} h => by
                rw [upd_ne fun z => by rw [z, c3''] at h; cases h]
                exact h
              by_cases hj : j < us0.length
              · rw [List.getElem?_append_left hj] at hv
                obtain ⟨q, xy, d1, d2, d3⟩ := c6 j v hv
                exact ⟨q, xy, d1, by rw [List.getElem?_append_left (by rw [← c4]; exact hj)]; exact d2, keep (x3 _ _ (x2 _ _ d3))⟩
              · have hl := (List.getElem?_eq_some_iff.mp hv).1
                rw [List.length_append] at hl
                have hl : j < us0.length + 1 := hl
                have ej : j = us0.length := by omega
                subst ej
                rw [List.getElem?_append_right (Nat.le_refl _), Nat.sub_self] at hv
                obtain rfl := Option.some.inj hv
                exact ⟨p2, (x, y), rfl, by rw [List.getElem?_append_right (by rw [c4]; exact Nat.le_refl _), c4, Nat.sub_self]; rfl, keep upd_same⟩
            · rcases List.mem_append.mp hz with hz | hz
              · exact c7 z hz
              · exact hin z hz
          · rw [if_neg hrt]
            obtain ⟨d1, d2, d3⟩ := hWe r0 hr0
            have hne : r0.2.1 ≠ e.2.1 := fun z => hrt (by rw [nodup_inj hWn hr0 hem z, het])
            refine ⟨d1, d2, d3.keep (fun us h => ?_) (fun q xs h => ?_) (Nat.le_succ _)⟩
            · rw [upd_ne hne]
              exact x3 _ _ (x2 _ _ h)
            · have h := x3 _ _ (x2 _ _ h)
              rw [upd_ne fun z => by rw [z, c3''] at h; cases h]
              exact h
      · rw [vK_get] at hv
        have hg : vGet W t = none := by
          cases h : vGet W t with
          | none => rfl
          | some e =>
            rw [h] at hv
            cases hv
        have hnew := vGet_none hg
        have h5 : ∀ {ob}, (upd (upd H' nb (.lst [])) D ob) nb = some (.lst []) := (upd_ne nbD).trans upd_same
        refine ⟨.inl ⟨rfl, _, sq_of h5⟩, _, rfl, _, rfl, by show 2 ≤ sizeLine; decide, fun p2 hp2 => ?_⟩
        have x3 := Ex.new (o := .tup [.int (x : Nat), .int (y : Nat)]) hp2
        have hD5 : (upd (upd H' nb (.lst [])) D (.dK (putK (vK W) (.inr t) (.ref nb)))) D = some (.dK (putK (vK W) (.inr t) (.ref nb))) := upd_same
        have p2n : p2 ≠ nb := fun z => by
          rw [z, h5] at hp2
          cases hp2
        have p2D : p2 ≠ D := fun z => by
          rw [z, hD5] at hp2
          cases hp2
        refine ⟨nb, [], _, rfl, rfl, x3 _ _ h5, by show 0 < sizeLine; decide, vPut W t nb (mrgs (alone n) [(x, y)]), _, _, _, rfl, ((e4.mut hD).trans x3).mut nbH, ?_, ?_, Nat.le_trans vPut_len (by omega), ?_, fun r hr => ?_⟩
        · rw [upd_ne fun z => nbD z.symm, upd_ne fun z => p2D z.symm, upd_same, vK_put]
        · rw [← vW_put, htk]
          unfold knotV
          rw [← hW, vW_get, hg]
          rfl
        · rw [vPut_new hnew, List.map_append]
          refine List.nodup_append.mpr ⟨hWn, by simp, fun a ha b hb z => ?_⟩
          obtain ⟨r, hr, rfl⟩ := List.mem_map.mp ha
          obtain ⟨_, _, us0, l0, c3, _⟩ := hWe r hr
          have hb : b = nb := List.mem_singleton.mp hb
          rw [z, hb, hnb] at c3
          cases c3
        · rw [vPut_new hnew] at hr
          rcases List.mem_append.mp hr with hr | hr
          · obtain ⟨d1, d2, d3⟩ := hWe r hr
            have hne : r.2.1 ≠ nb := fun z => by
              obtain ⟨us0, l0, c3, _⟩ := d3
              rw [z, hnb] at c3
              cases c3
            refine ⟨d1, d2, d3.keep (fun us h => ?_) (fun q xs h => ?_) (Nat.le_succ _)⟩
            · rw [upd_ne hne]
              exact x3 _ _ ((upd_ne d2).trans (x2 _ _ h))
            · have h1 : q ≠ D := fun z => by
                rw [z, hDH] at h
                cases h
              have h2 : q ≠ nb := fun z => by
                rw [z, hnb] at h
                cases h
              rw [upd_ne h2]
              exact x3 _ _ ((upd_ne h1).trans (x2 _ _ h))
          · rw [List.mem_singleton.mp hr]
            refine ⟨nbH, nbD, [.ref p2], [(x, y)], upd_same, rfl, by show 1 ≤ i + 1; omega, fun j v hv => ?_, hin, rfl⟩
            cases j with
            | zero =>
              cases hv
              exact ⟨p2, (x, y), rfl, rfl, (upd_ne p2n).trans upd_same⟩
            | succ j => cases hv
    · obtain ⟨W, y3, y4, y5, rfl, e1, hDH, hW, hWl, hWn, hWe⟩ := hp
      rw [List.take_of_length_le (by rw [hk.1]; exact Nat.le_refl _)] at hW
      refine ⟨D, _, hDH, True.intro, fun od => ?_⟩
      have hDs : upd H' D (.frz od (.dK (vK W))) D = some (.frz od (.dK (vK W))) := upd_same
      have es : Ex H (upd H' D (.frz od (.dK (vK W)))) := e1.mut hD
      have hrow : ∀ e ∈ W, ∃ (us : List V) (l : List (Nat × Nat)), upd H' D (.frz od (.dK (vK W))) e.2.1 = some (.lst us) ∧ Prs K (upd H' D (.frz od (.dK (vK W)))) us l ∧ inN n l ∧ e.2.2 = mrgs (alone n) l := fun e he => by
        obtain ⟨c1, c2, us0, l0, c3, c4, c5, c6, c7, c8⟩ := hWe e he
        refine ⟨us0, l0, (upd_ne c2).trans c3, ⟨c4, fun i v hv => ?_⟩, c7, c8⟩
        obtain ⟨q, xy, d1, d2, d3⟩ := c6 i v hv
        exact ⟨q, xy, d1, d2, st_of ((upd_ne fun z => by rw [z, hDH] at d3; cases d3).trans d3)⟩
      have hnn : (W.map (·.1)).Nodup := by
        have h := knotsV_nodup n ks
        rw [← hW] at h
        unfold vW at h
        rw [List.map_map] at h
        exact h
      generalize hHs : upd H' D (.frz od (.dK (vK W))) = Hs at hDs es hrow ⊢
      refine ⟨_, rfl, D, od, rfl, .inl ⟨vK W, hDs, fun D2 hD2 => ?_⟩⟩
      have hD2D : D2 ≠ D := fun z => by
        rw [z, hDs] at hD2
        cases hD2
      have hvl : (vK W).length = W.length := by
        unfold vK
        rw [List.length_map]
      refine dc_by (walk_keys (kvs := vK W)) (fun i H2 => ∃ W2 : List VRow, Ex Hs H2 ∧ H2 D2 = some (.dK (vK W2)) ∧ vW W2 = (vW W).take i ∧ W2.length ≤ i ∧ ∀ e ∈ W2, H2 e.2.1 = some (.tup (nvs e.2.2)) ∧ IsP n e.2.2) ⟨[], Ex.new hD2, upd_same, rfl, Nat.le_refl _, fun e he => nomatch he⟩ (fun i H2 _ hp => ?_) (fun i u H3 H4 hi hp hy => ?_) (fun H2 hp => ?_)
      · obtain ⟨W2, x1, _⟩ := hp
        exact x1 _ _ hDs
      · obtain ⟨rfl, kk, vv, hu, rfl⟩ := hy
        obtain ⟨W2, x1, h2, h3, h4, h5⟩ := hp
        unfold vK at hu
        rw [List.getElem?_map] at hu
        obtain ⟨e, he, hev⟩ := Option.map_eq_some_iff.mp hu
        obtain ⟨rfl, rfl⟩ := Prod.mk.inj hev
        have hem := List.mem_of_getElem? he
        obtain ⟨us0, l0, c1, c2, c3, c4⟩ := hrow e hem
        have hil : i < W.length := by rw [← hvl]; exact hi
        have hget : valV (vK W) (.inr e.1) = some (.ref e.2.1) := by
          rw [vK_get]
          cases hg : vGet W e.1 with
          | none => exact absurd rfl (vGet_none hg e hem)
          | some e2 =>
            have h1 : e2.1 = e.1 := vGet_name hg
            rw [nodup_inj hnn (List.mem_of_find?_eq_some hg) hem h1]
            rfl
        refine ⟨rfl, _, rfl, _, rfl, _, rfl, _, rfl, D, .ref e.2.1, rfl, ?_, n, e.2.1, us0, l0, rfl, hn, .inl (sq_of (x1 _ _ c1)), c2.mono x1, c3, fun r H5 x5 hr hr5 => ?_⟩
        · rw [← hget]
          exact .inl ⟨_, _, .inr ⟨od, x1 _ _ hDs⟩, rfl, rfl⟩
        · have h25 := x5 _ _ h2
          have keep : ∀ {a : Addr} {xs : List V}, H5 a = some (.tup xs) → upd H5 D2 (.dK (vK (vPut W2 e.1 r (mrgs (alone n) l0)))) a = some (.tup xs) := fun {a xs} g => by
            rw [upd_ne fun z => by rw [z, h25] at g; cases g]
            exact g
          have hnew : ∀ x ∈ vW W2, x.1 ≠ e.1 := fun x hx z => by
            rw [h3] at hx
            obtain ⟨j, hj, hjx⟩ := List.getElem_of_mem hx
            rw [List.getElem_take] at hjx
            have hji : j < i := by
              rw [List.length_take] at hj
              omega
            unfold vW at hjx
            rw [List.getElem_map] at hjx
            have hei : W[i] = e := by
              have := List.getElem?_eq_getElem hil
              rw [he] at this
              exact (Option.some.inj this).symm
            have h1 : (W.map (·.1))[j]'(by rw [List.length_map]; omega) ≠ (W.map (·.1))[i]'(by rw [List.length_map]; exact hil) := List.pairwise_iff_getElem.mp hnn j i _ _ hji
            rw [List.getElem_map, List.getElem_map, hei, ← z, ← hjx] at h1
            exact h1 rfl
          refine ⟨vK W2, .inr e.1, rfl, h25, ?_, ?_⟩
          · unfold vK
            rw [List.length_map]
            exact sz_lt (by have := hk.1; omega)
          · rw [vK_put (p := mrgs (alone n) l0)]
            refine ⟨vPut W2 e.1 r (mrgs (alone n) l0), (x1.trans x5).mut hD2, upd_same, ?_, Nat.le_trans vPut_len (by omega), vPut_all (Pp := fun a p2 => upd H5 D2 (.dK (vK (vPut W2 e.1 r (mrgs (alone n) l0)))) a = some (.tup (nvs p2)) ∧ IsP n p2) (fun x hx => ⟨keep (x5 _ _ (h5 x hx).1), (h5 x hx).2⟩) ⟨keep hr5, isP_mrgs (isP_alone n) c3⟩⟩
            have ht : (vW W)[i]? = some (e.1, mrgs (alone n) l0) := by
              unfold vW
              rw [List.getElem?_map, he, ← c4]
              rfl
            rw [← vW_put, wPut_new hnew, h3, List.take_add_one, ht]
            rfl
      · obtain ⟨W2, x1, h2, h3, h4, h5⟩ := hp
        rw [hvl, List.take_of_length_le (by unfold vW; rw [List.length_map]; exact Nat.le_refl _), hW] at h3
        have hf := x1 _ _ hDs
        refine ⟨hf, q D2 _ ((es.trans x1).mut hD) (fresh_back es hD2) ⟨W2, (upd_ne hD2D).trans h2, h3, fun e he => ⟨?_, (h5 e he).2⟩⟩⟩
        have := (h5 e he).1
        rw [upd_ne fun z => by rw [z, hf] at this; cases this]
        exact this
end
end Eyes

set_option Elab.async false
set_option linter.all false
set_option maxRecDepth 100000
set_option maxHeartbeats 4000000
namespace Eyes
open PySem PySem.Spec PyProof.Rows L2 Evl TL
section
variable {P : Program} {w : World} {K : PySem.W.Frag} {mg : Str → Option Value} {base : Heap} {AA : Adr}
end
end Eyes

set_option Elab.async false
set_option linter.all false
set_option maxRecDepth 100000
set_option maxHeartbeats 4000000
namespace Eyes
open PySem PySem.Spec PyProof.Rows L2 Evl TL
def reprC (c : Ci) : Str := Str.empty ++ Str.ofString "Circle(" ++ c.str ++ Str.ofString ")"
def EqK (K : PySem.W.Frag) (C : Addr) (c : Ci) (H : Hp) (y : V) (b : Bool) : Prop :=
  (∃ d, CiAt C H y d ∧ b = decide (c.str = d.str)) ∨ (∃ z, y = .str z ∧ b = false) ∨ ∃ a zs, y = .ref a ∧ H a = some (.lst zs) ∧ b = false
def spEqC (K : PySem.W.Frag) (C : Addr) : Sp := fun vs H Q _ => ∃ (x y : V) (c : Ci) (b : Bool), vs = [x, y] ∧ CiAt C H x c ∧ EqK K C c H y b ∧ ∀ H', Ex H H' → Q (.bl b) H'
def spEyesC (C : Addr) (n : Nat) : Sp := fun vs H Q _ => ∃ (v : V) (c : Ci), vs = [v] ∧ CiAt C H v c ∧ c.depth < n ∧ c.fine ∧ ∀ (ys : List Str) (l : Addr) (H' : Hp), IsEyes c ys → H l = none → Ex H H' → H' l = some (.lst (ys.map V.str)) → Q (.ref l) H'
section
variable {P : Program} {w : World} {K : PySem.W.Frag} {mg : Str → Option Value} {base : Heap} {AA : Adr}
end
end Eyes

set_option Elab.async false
set_option linter.all false
set_option maxRecDepth 100000
set_option maxHeartbeats 4000000
namespace Eyes
open PySem PySem.Spec PyProof.Rows L2 Evl TL
def Plain (x : V) : Prop := x = .non ∨ (∃ b, x = .bl b) ∨ (∃ i, x = .int i) ∨ ∃ z, x = .str z
inductive Sm (C : Addr) (H : Hp) : Nat → V → V → Prop
  | sc {n : Nat} {x : V} : Plain x → Sm C H (n + 1) x x
  | ci {n : Nat} {x y : V} {c d : Ci} : CiAt C H x c → CiAt C H y d → c.str = d.str → Sm C H (n + 1) x y
  | lst {n : Nat} {a b : Addr} {xs ys : List V} : H a = some (.lst xs) → H b = some (.lst ys) → xs.length = ys.length → xs.length ≤ 90000 → (∀ (i : Nat) (u v : V), xs[i]? = some u → ys[i]? = some v → Sm C H n u v) → Sm C H (n + 1) (.ref a) (.ref b)
  | tup {n : Nat} {a b : Addr} {xs ys : List V} : H a = some (.tup xs) → H b = some (.tup ys) → xs.length = ys.length → xs.length ≤ 90000 → (∀ (i : Nat) (u v : V), xs[i]? = some u → ys[i]? = some v → Sm C H n u v) → Sm C H (n + 1) (.ref a) (.ref b)
theorem Sm.mono {C : Addr} {H H' : Hp} (e : Ex H H') {n : Nat} {x y : V} (h : Sm C H n x y) : Sm C H' n x y := by
  induction h with
  | sc h => exact .sc h
  | ci h1 h2 h3 => exact .ci (h1.mono e) (h2.mono e) h3
  | lst h1 h2 h3 h4 _ ih => exact .lst (e _ _ h1) (e _ _ h2) h3 h4 ih
  | tup h1 h2 h3 h4 _ ih => exact .tup (e _ _ h1) (e _ _ h2) h3 h4 ih
structure Hd (K : PySem.W.Frag) (C : Addr) (H : Hp) (n : Nat) (x y : V) (t : Value) (kl kt kb ki ks sq : Bool) : Prop where
  tx : TyX K H x t
  ty : TyX K H y t
  l : PySem.W.kitOne K t (.type "list") = some kl
  tp : PySem.W.kitOne K t (.type "tuple") = some kt
  b : PySem.W.kitOne K t (.type "bool") = some kb
  i : PySem.W.kitOne K t (.type "int") = some ki
  s : PySem.W.kitOne K t (.type "str") = some ks
  q : PySem.W.kitAny K t [.type "list", .type "tuple"] = some sq
  yes : sq = true → ∃ (p1 p2 : Addr) (xs ys : List V), x = .ref p1 ∧ y = .ref p2 ∧ xs.length = ys.length ∧ xs.length ≤ 90000 ∧ (∀ (i : Nat) (u v : V), xs[i]? = some u → ys[i]? = some v → Sm C H n u v) ∧ ((H p1 = some (.lst xs) ∧ H p2 = some (.lst ys)) ∨ (H p1 = some (.tup xs) ∧ H p2 = some (.tup ys)))
  no : sq = false → PySem.W.kitOne K t (.type "dict") = some false ∧ ((x = y ∧ scal x y = true) ∨ ∃ c d, CiAt C H x c ∧ CiAt C H y d ∧ c.str = d.str)
theorem Sm.hd {K : PySem.W.Frag} {C : Addr} {H : Hp} {n : Nat} {x y : V} (cc : Cls K C) (cy : ClsY K C) (h : Sm C H (n + 1) x y) : ∃ t kl kt kb ki ks sq, Hd K C H n x y t kl kt kb ki ks sq := by
  have dat : ∀ (d : PyData), Rep H x d → Rep H y d → (seqD d = true → ∃ (p1 p2 : Addr) (xs ys : List V), x = .ref p1 ∧ y = .ref p2 ∧ xs.length = ys.length ∧ xs.length ≤ 90000 ∧ (∀ (i : Nat) (u v : V), xs[i]? = some u → ys[i]? = some v → Sm C H n u v) ∧ ((H p1 = some (.lst xs) ∧ H p2 = some (.lst ys)) ∨ (H p1 = some (.tup xs) ∧ H p2 = some (.tup ys)))) → (seqD d = false → PySem.W.kitOne K (.type (tyD d)) (.type "dict") = some false ∧ x = y ∧ scal x y = true) → ∃ t kl kt kb ki ks sq, Hd K C H n x y t kl kt kb ki ks sq := fun d hx hy g1 g2 => by
    obtain ⟨kl, hkl⟩ := kit_list K d
    obtain ⟨kt, hkt⟩ := kit_tuple K d
    obtain ⟨kb, hkb⟩ := kit_bool K d
    obtain ⟨ki, hki⟩ := kit_int K d
    obtain ⟨ks, hks⟩ := kit_str K d
    exact ⟨_, kl, kt, kb, ki, ks, seqD d, hx.ty, hy.ty, hkl, hkt, hkb, hki, hks, kit_seq K d, g1, fun z => ⟨(g2 z).1, .inl (g2 z).2⟩⟩
  cases h with
  | sc h =>
    rcases h with rfl | ⟨b, rfl⟩ | ⟨i, rfl⟩ | ⟨z, rfl⟩
    · exact dat .none .non .non (fun z => nomatch z) fun _ => ⟨kit_ty (a := "NoneType") (by decide +kernel), rfl, rfl⟩
    · exact dat (.bool b) (.bl b) (.bl b) (fun z => nomatch z) fun _ => ⟨kit_ty (a := "bool") (by decide +kernel), rfl, rfl⟩
    · exact dat (.int i) (.int i) (.int i) (fun z => nomatch z) fun _ => ⟨kit_ty (a := "int") (by decide +kernel), rfl, rfl⟩
    · exact dat (.str z) (.str z) (.str z) (fun z => nomatch z) fun _ => ⟨kit_ty (a := "str") (by decide +kernel), rfl, rfl⟩
  | ci h1 h2 h3 =>
    obtain ⟨p, dx, l, vs, rfl, hp, _, _⟩ := h1.at_
    obtain ⟨p2, dx2, l2, vs2, rfl, hp2, _, _⟩ := h2.at_
    refine ⟨_, false, false, false, false, false, false, .base (.ins hp cc cy.ty1 cy.ty2 cy.ty3 cy.ty4), .base (.ins hp2 cc cy.ty1 cy.ty2 cy.ty3 cy.ty4), cy.k_list, cy.k_tuple, cy.k_bool, cy.k_int, cy.k_str, ?_, fun z => (nomatch z), fun _ => ⟨cy.k_dict, .inr ⟨_, _, h1, h2, h3⟩⟩⟩
    exact kitAny_cons (b := false) cy.k_list (fun _ => kitAny_cons (b := false) cy.k_tuple (fun _ => kitAny_nil) (fun z => nomatch z)) (fun z => nomatch z)
  | @lst _ a b xs ys h1 h2 h3 h4 h5 =>
    obtain ⟨kl, hkl⟩ := kit_list K (.list [])
    obtain ⟨kt, hkt⟩ := kit_tuple K (.list [])
    obtain ⟨kb, hkb⟩ := kit_bool K (.list [])
    obtain ⟨ki, hki⟩ := kit_int K (.list [])
    obtain ⟨ks, hks⟩ := kit_str K (.list [])
    exact ⟨_, kl, kt, kb, ki, ks, true, .base (.lst h1), .base (.lst h2), hkl, hkt, hkb, hki, hks, kit_seq K (.list []), fun _ => ⟨a, b, xs, ys, rfl, rfl, h3, h4, h5, .inl ⟨h1, h2⟩⟩, fun z => (nomatch z)⟩
  | @tup _ a b xs ys h1 h2 h3 h4 h5 =>
    obtain ⟨kl, hkl⟩ := kit_list K (.tuple [])
    obtain ⟨kt, hkt⟩ := kit_tuple K (.tuple [])
    obtain ⟨kb, hkb⟩ := kit_bool K (.tuple [])
    obtain ⟨ki, hki⟩ := kit_int K (.tuple [])
    obtain ⟨ks, hks⟩ := kit_str K (.tuple [])
    exact ⟨_, kl, kt, kb, ki, ks, true, .base (.tup h1), .base (.tup h2), hkl, hkt, hkb, hki, hks, kit_seq K (.tuple []), fun _ => ⟨a, b, xs, ys, rfl, rfl, h3, h4, h5, .inr ⟨h1, h2⟩⟩, fun z => (nomatch z)⟩
theorem Sm.non {C : Addr} {H : Hp} {n : Nat} {x y : V} (h : Sm C H n x y) : (x = .non ∧ y = .non) ∨ (decide (x = V.non) = false ∧ decide (y = V.non) = false) := by
  cases h with
  | sc h =>
    rcases h with rfl | ⟨b, rfl⟩ | ⟨i, rfl⟩ | ⟨z, rfl⟩
    · exact .inl ⟨rfl, rfl⟩
    · exact .inr ⟨rfl, rfl⟩
    · exact .inr ⟨rfl, rfl⟩
    · exact .inr ⟨decide_eq_false nofun, decide_eq_false nofun⟩
  | ci h1 h2 h3 =>
    obtain ⟨p, dx, l, vs, rfl, hp, _, _⟩ := h1.at_
    obtain ⟨p2, dx2, l2, vs2, rfl, hp2, _, _⟩ := h2.at_
    exact .inr ⟨rfl, rfl⟩
  | lst => exact .inr ⟨rfl, rfl⟩
  | tup => exact .inr ⟨rfl, rfl⟩
def spSm (C : Addr) (n : Nat) : Sp := fun vs H Q _ => ∃ (x y : V), vs = [x, y] ∧ Sm C H n x y ∧ ∀ H', Ex H H' → Q (.bl true) H'
section
variable {P : Program} {w : World} {K : PySem.W.Frag} {mg : Str → Option Value} {base : Heap} {AA : Adr}
end
end Eyes

set_option Elab.async false
set_option linter.all false
set_option maxRecDepth 100000
set_option maxHeartbeats 4000000
/-! The same thing twice, dicts too: data alone. -/
namespace Eyes
open PySem PySem.Spec PyProof.Rows L2 Evl TL
inductive Sd (H : Hp) : Nat → V → V → Prop
  | sc {n : Nat} {x : V} : Plain x → Sd H (n + 1) x x
  | lst {n : Nat} {a b : Addr} {xs ys : List V} : H a = some (.lst xs) → H b = some (.lst ys) → xs.length = ys.length → xs.length ≤ 90000 → (∀ (i : Nat) (u v : V), xs[i]? = some u → ys[i]? = some v → Sd H n u v) → Sd H (n + 1) (.ref a) (.ref b)
  | tup {n : Nat} {a b : Addr} {xs ys : List V} : H a = some (.tup xs) → H b = some (.tup ys) → xs.length = ys.length → xs.length ≤ 90000 → (∀ (i : Nat) (u v : V), xs[i]? = some u → ys[i]? = some v → Sd H n u v) → Sd H (n + 1) (.ref a) (.ref b)
  | dct {n : Nat} {a b : Addr} {kvs lvs : List (L2.Key × V)} : H a = some (.dK kvs) → H b = some (.dK lvs) → kvs.map (·.1) = lvs.map (·.1) → (lvs.map (·.1)).Nodup → lvs.length ≤ 1000 → (∀ (i : Nat) (k : L2.Key) (u v : V), kvs[i]? = some (k, u) → lvs[i]? = some (k, v) → Sd H (n + 2) u v) → Sd H (n + 3) (.ref a) (.ref b)
theorem Sd.mono {H H' : Hp} (e : Ex H H') {n : Nat} {x y : V} (h : Sd H n x y) : Sd H' n x y := by
  induction h with
  | sc h => exact .sc h
  | lst h1 h2 h3 h4 _ ih => exact .lst (e _ _ h1) (e _ _ h2) h3 h4 ih
  | tup h1 h2 h3 h4 _ ih => exact .tup (e _ _ h1) (e _ _ h2) h3 h4 ih
  | dct h1 h2 h3 h4 h5 _ ih => exact .dct (e _ _ h1) (e _ _ h2) h3 h4 h5 ih
structure Hq (K : PySem.W.Frag) (H : Hp) (n : Nat) (x y : V) (t : Value) (kl kt kb ki ks sq : Bool) : Prop where
  tx : TyX K H x t
  ty : TyX K H y t
  l : PySem.W.kitOne K t (.type "list") = some kl
  tp : PySem.W.kitOne K t (.type "tuple") = some kt
  b : PySem.W.kitOne K t (.type "bool") = some kb
  i : PySem.W.kitOne K t (.type "int") = some ki
  s : PySem.W.kitOne K t (.type "str") = some ks
  q : PySem.W.kitAny K t [.type "list", .type "tuple"] = some sq
  yes : sq = true → ∃ (p1 p2 : Addr) (xs ys : List V), x = .ref p1 ∧ y = .ref p2 ∧ xs.length = ys.length ∧ xs.length ≤ 90000 ∧ (∀ (i : Nat) (u v : V), xs[i]? = some u → ys[i]? = some v → Sd H n u v) ∧ ((H p1 = some (.lst xs) ∧ H p2 = some (.lst ys)) ∨ (H p1 = some (.tup xs) ∧ H p2 = some (.tup ys)))
  no : sq = false → PySem.W.kitOne K t (.type "dict") = some false ∧ x = y ∧ scal x y = true
theorem Sd.hd {K : PySem.W.Frag} {H : Hp} {n : Nat} {x y : V} (h : Sd H (n + 1) x y) : (∃ t kl kt kb ki ks sq, Hq K H n x y t kl kt kb ki ks sq) ∨ ∃ (m : Nat) (a b : Addr) (kvs lvs : List (L2.Key × V)), n = m + 2 ∧ x = .ref a ∧ y = .ref b ∧ H a = some (.dK kvs) ∧ H b = some (.dK lvs) ∧ kvs.map (·.1) = lvs.map (·.1) ∧ (lvs.map (·.1)).Nodup ∧ lvs.length ≤ 1000 ∧ ∀ (i : Nat) (k : L2.Key) (u v : V), kvs[i]? = some (k, u) → lvs[i]? = some (k, v) → Sd H (m + 2) u v := by
  have dat : ∀ (d : PyData), TyX K H x (.type (tyD d)) → TyX K H y (.type (tyD d)) → (seqD d = true → ∃ (p1 p2 : Addr) (xs ys : List V), x = .ref p1 ∧ y = .ref p2 ∧ xs.length = ys.length ∧ xs.length ≤ 90000 ∧ (∀ (i : Nat) (u v : V), xs[i]? = some u → ys[i]? = some v → Sd H n u v) ∧ ((H p1 = some (.lst xs) ∧ H p2 = some (.lst ys)) ∨ (H p1 = some (.tup xs) ∧ H p2 = some (.tup ys)))) → (seqD d = false → PySem.W.kitOne K (.type (tyD d)) (.type "dict") = some false ∧ x = y ∧ scal x y = true) → ∃ t kl kt kb ki ks sq, Hq K H n x y t kl kt kb ki ks sq := fun d hx hy g1 g2 => by
    obtain ⟨kl, hkl⟩ := kit_list K d
    obtain ⟨kt, hkt⟩ := kit_tuple K d
    obtain ⟨kb, hkb⟩ := kit_bool K d
    obtain ⟨ki, hki⟩ := kit_int K d
    obtain ⟨ks, hks⟩ := kit_str K d
    exact ⟨_, kl, kt, kb, ki, ks, seqD d, hx, hy, hkl, hkt, hkb, hki, hks, kit_seq K d, g1, g2⟩
  cases h with
  | sc h =>
    refine .inl ?_
    rcases h with rfl | ⟨b, rfl⟩ | ⟨i, rfl⟩ | ⟨z, rfl⟩
    · exact dat .none Rep.non.ty Rep.non.ty (fun z => nomatch z) fun _ => ⟨kit_ty (a := "NoneType") (by decide +kernel), rfl, rfl⟩
    · exact dat (.bool b) (Rep.bl b).ty (Rep.bl b).ty (fun z => nomatch z) fun _ => ⟨kit_ty (a := "bool") (by decide +kernel), rfl, rfl⟩
    · exact dat (.int i) (Rep.int i).ty (Rep.int i).ty (fun z => nomatch z) fun _ => ⟨kit_ty (a := "int") (by decide +kernel), rfl, rfl⟩
    · exact dat (.str z) (Rep.str z).ty (Rep.str z).ty (fun z => nomatch z) fun _ => ⟨kit_ty (a := "str") (by decide +kernel), rfl, rfl⟩
  | @lst _ a b xs ys h1 h2 h3 h4 h5 =>
    exact .inl (dat (.list []) (.base (.lst h1)) (.base (.lst h2)) (fun _ => ⟨a, b, xs, ys, rfl, rfl, h3, h4, h5, .inl ⟨h1, h2⟩⟩) fun z => nomatch z)
  | @tup _ a b xs ys h1 h2 h3 h4 h5 =>
    exact .inl (dat (.tuple []) (.base (.tup h1)) (.base (.tup h2)) (fun _ => ⟨a, b, xs, ys, rfl, rfl, h3, h4, h5, .inr ⟨h1, h2⟩⟩) fun z => nomatch z)
  | @dct m a b kvs lvs h1 h2 h3 h4 h5 h6 => exact .inr ⟨m, a, b, kvs, lvs, rfl, rfl, rfl, h1, h2, h3, h4, h5, h6⟩
theorem Sd.non {H : Hp} {n : Nat} {x y : V} (h : Sd H n x y) : (x = .non ∧ y = .non) ∨ (decide (x = V.non) = false ∧ decide (y = V.non) = false) := by
  cases h with
  | sc h =>
    rcases h with rfl | ⟨b, rfl⟩ | ⟨i, rfl⟩ | ⟨z, rfl⟩
    · exact .inl ⟨rfl, rfl⟩
    · exact .inr ⟨rfl, rfl⟩
    · exact .inr ⟨rfl, rfl⟩
    · exact .inr ⟨decide_eq_false nofun, decide_eq_false nofun⟩
  | lst => exact .inr ⟨rfl, rfl⟩
  | tup => exact .inr ⟨rfl, rfl⟩
  | dct => exact .inr ⟨rfl, rfl⟩
theorem valV_at : ∀ {kvs : List (L2.Key × V)} {i : Nat} {k : L2.Key} {v : V}, (kvs.map (·.1)).Nodup → kvs[i]? = some (k, v) → valV kvs k = some v
  | [], _, _, _, _, h => nomatch h
  | e :: kvs, 0, k, v, _, h => by
    cases h
    exact valV_pos rfl
  | e :: kvs, i + 1, k, v, hn, h => by
    rw [List.map_cons, List.nodup_cons] at hn
    have h2 : kvs[i]? = some (k, v) := h
    rw [valV_neg (p := e) fun z => hn.1 (by rw [z]; exact List.mem_map.mpr ⟨_, List.mem_of_getElem? h2, rfl⟩)]
    exact valV_at hn.2 h2
def spSd (n : Nat) : Sp := fun vs H Q _ => ∃ (x y : V), vs = [x, y] ∧ Sd H n x y ∧ ∀ H', Ex H H' → Q (.bl true) H'
theorem kV_plain (k : L2.Key) : Plain (kV k) := by
  cases k with
  | inl i => exact .inr (.inr (.inl ⟨_, rfl⟩))
  | inr s => exact .inr (.inr (.inr ⟨_, rfl⟩))
section
variable {P : Program} {w : World} {K : PySem.W.Frag} {mg : Str → Option Value} {base : Heap} {AA : Adr}
theorem ok_law_sd (T : Txt K mg AA) : ∀ n : Nat, Pr P w K mg base "_law_same" s_law_same p_law_same (n + 1) (spSd n)
  | 0 => by
    obtain ⟨f, fd, F, hb, hm⟩ := T.f_law_same
    exact ⟨f, fd, hm, F, hb, fun vs H Q E h => by
      obtain ⟨x, y, rfl, h, _⟩ := h
      rfl, fun A outer s H args us vs Q E _ _ _ _ h => by
      obtain ⟨x, y, _, h, _⟩ := h
      cases h⟩
  | n + 1 => by
    have G := ok_law_sd T n
    refine pr_mk T.f_law_same sc_law_same (fun vs H Q E h => ?_) (fun f cdv A outer s H vs Q E hr h => ?_)
    · obtain ⟨x, y, rfl, _⟩ := h
      rfl
    · obtain ⟨x, y, rfl, hs, q⟩ := h
      refine ⟨_, (pss_cons (ps_if (PW.pt (pw_or (pt_cmpR op_isN (pv 1) pe_non (nomark _)) (pw_or1 (pt_cmpR op_isN (pv 0) pe_non (nomark _)))))
      (pss_one (ps_ret (pe_and (pe_cmpR op_isN (pv 1) pe_non (nomark _)) (pe_one (pe_cmpR op_isN (pv 0) pe_non (nomark _))))))
      pss_nil)
      (pss_cons (ps_if (pt_val (pe_callB call_isiT (by rfl) T.n_isinstance PyProof.Rows.boot_isinstance (pa_cons (pv 1) (pa_cons (pe_tup (pa_cons (pe_bltn (v := .ty "list") (by rfl) T.n_list (by decide +kernel) rfl) (pa_cons (pe_bltn (v := .ty "tuple") (by rfl) T.n_tuple (by decide +kernel) rfl) pa_nil))) pa_nil))))
      (pss_cons (ps_if (PW.pt (pw_or (pt_cmpR op_ne (pe_callB (call_isiK (K := K) rfl) (by rfl) T.n_isinstance PyProof.Rows.boot_isinstance (pa_cons (pv 0) (pa_cons (pe_bltn (v := .ty "list") (by rfl) T.n_list (by decide +kernel) rfl) pa_nil))) (pe_callB (call_isiK (K := K) rfl) (by rfl) T.n_isinstance PyProof.Rows.boot_isinstance (pa_cons (pv 1) (pa_cons (pe_bltn (v := .ty "list") (by rfl) T.n_list (by decide +kernel) rfl) pa_nil))) (nomark _)) (pw_or1 (pt_cmpR op_ne (pe_callB (call_isiK (K := K) rfl) (by rfl) T.n_isinstance PyProof.Rows.boot_isinstance (pa_cons (pv 0) (pa_cons (pe_bltn (v := .ty "tuple") (by rfl) T.n_tuple (by decide +kernel) rfl) pa_nil))) (pe_callB (call_isiK (K := K) rfl) (by rfl) T.n_isinstance PyProof.Rows.boot_isinstance (pa_cons (pv 1) (pa_cons (pe_bltn (v := .ty "tuple") (by rfl) T.n_tuple (by decide +kernel) rfl) pa_nil))) (nomark _)))))
      (pss_one (ps_ret pe_bl))
      pss_nil)
      (pss_one (ps_ret (pe_and (pe_cmpR op_eq (pe_callB call_len (by rfl) T.n_len PySem.boot_len (pa_cons (pv 0) pa_nil)) (pe_callB call_len (by rfl) T.n_len PySem.boot_len (pa_cons (pv 1) pa_nil)) (nomark _)) (pe_one (pe_callB (cr_all rfl) (by rfl) T.n_all PyProof.Rows.boot_all (pa_cons (pe_lc (own := [("_law_x", 3), ("_law_y", 4)]) (g := gTup K 2 (gCons (gName 3) (gCons (gName 4) gNil))) (tt := tYes) rfl sc_law_same.nd (RZ.pi_zipA (by rfl) T.n_zip (pa_cons (pv 0) (pa_cons (pv 1) pa_nil))) (blkOk_by (own := [("_law_x", 3), ("_law_y", 4)]) (N := n_law_same) (sc := defScope s_law_same) (by decide +kernel)) (fun _ _ _ _ _ => (pg_tup (by rfl) (pgs_cons (pg_name (i := 3) sc_law_same.nd rfl (.inl rfl)) (pgs_cons (pg_name (i := 4) sc_law_same.nd rfl (.inl rfl)) pgs_nil)))) (fun _ _ _ _ _ => pts_nil) (fun _ _ _ _ _ => (pcall G hr (pa_cons (pv 3) (pa_cons (pv 4) pa_nil))))) pa_nil)))))))
      pss_nil)
      (pss_cons (ps_if (pt_val (pe_callB (call_isiK (K := K) rfl) (by rfl) T.n_isinstance PyProof.Rows.boot_isinstance (pa_cons (pv 1) (pa_cons (pe_bltn (v := .ty "dict") (by rfl) T.n_dict (by decide +kernel) rfl) pa_nil))))
      (pss_cons (ps_if (PW.pt (pw_or (pt_not (pt_val (pe_callB (call_isiK (K := K) rfl) (by rfl) T.n_isinstance PyProof.Rows.boot_isinstance (pa_cons (pv 0) (pa_cons (pe_bltn (v := .ty "dict") (by rfl) T.n_dict (by decide +kernel) rfl) pa_nil))))) (pw_or1 (pt_not (pt_val (pcall G hr (pa_cons (pe_callTy (call_list_dK rfl) (by rfl) T.n_list PyProof.Rows.boot_list (pa_cons (pv 0) pa_nil)) (pa_cons (pe_callTy (call_list_dK rfl) (by rfl) T.n_list PyProof.Rows.boot_list (pa_cons (pv 1) pa_nil)) pa_nil))))))))
      (pss_one (ps_ret pe_bl))
      pss_nil)
      (pss_one (ps_ret (pe_callB (cr_all rfl) (by rfl) T.n_all PyProof.Rows.boot_all (pa_cons (pe_lc (own := [("_law_mark", 2)]) (g := gName 2) (tt := tYes) rfl sc_law_same.nd (pi_list (pe_callTy (call_list_dK rfl) (by rfl) T.n_list PyProof.Rows.boot_list (pa_cons (pv 1) pa_nil))) (blkOk_by (own := [("_law_mark", 2)]) (N := n_law_same) (sc := defScope s_law_same) (by decide +kernel)) (fun _ _ _ _ _ => (pg_name (i := 2) sc_law_same.nd rfl (.inl rfl))) (fun _ _ _ _ _ => pts_nil) (fun _ _ _ _ _ => (pcall G hr (pa_cons (pe_dget (hu_of hr) (pv 0) (pv 2) (fun _ _ => rfl)) (pa_cons (pe_dget (hu_of hr) (pv 1) (pv 2) (fun _ _ => rfl)) pa_nil))))) pa_nil)))))
      pss_nil)
      (pss_cons (ps_if (PW.pt (pw_or (pt_cmpR op_ne (pe_callB (call_isiK (K := K) rfl) (by rfl) T.n_isinstance PyProof.Rows.boot_isinstance (pa_cons (pv 1) (pa_cons (pe_bltn (v := .ty "bool") (by rfl) T.n_bool (by decide +kernel) rfl) pa_nil))) (pe_callB (call_isiK (K := K) rfl) (by rfl) T.n_isinstance PyProof.Rows.boot_isinstance (pa_cons (pv 0) (pa_cons (pe_bltn (v := .ty "bool") (by rfl) T.n_bool (by decide +kernel) rfl) pa_nil))) (nomark _)) (pw_or1 (pt_cmpR op_ne (pe_callB (call_isiK (K := K) rfl) (by rfl) T.n_isinstance PyProof.Rows.boot_isinstance (pa_cons (pv 1) (pa_cons (pe_bltn (v := .ty "int") (by rfl) T.n_int (by decide +kernel) rfl) pa_nil))) (pe_callB (call_isiK (K := K) rfl) (by rfl) T.n_isinstance PyProof.Rows.boot_isinstance (pa_cons (pv 0) (pa_cons (pe_bltn (v := .ty "int") (by rfl) T.n_int (by decide +kernel) rfl) pa_nil))) (nomark _)))))
      (pss_one (ps_ret pe_bl))
      pss_nil)
      (pss_one (ps_ret (pe_and (pe_cmpR op_eq (pe_callB (call_isiK (K := K) rfl) (by rfl) T.n_isinstance PyProof.Rows.boot_isinstance (pa_cons (pv 1) (pa_cons (pe_bltn (v := .ty "str") (by rfl) T.n_str (by decide +kernel) rfl) pa_nil))) (pe_callB (call_isiK (K := K) rfl) (by rfl) T.n_isinstance PyProof.Rows.boot_isinstance (pa_cons (pv 0) (pa_cons (pe_bltn (v := .ty "str") (by rfl) T.n_str (by decide +kernel) rfl) pa_nil))) (nomark _)) (pe_one (pe_cmpR op_eq (pv 0) (pv 1) (by rfl)))))))))), ?_⟩
      -- if due is None or found is None
      refine ⟨_, rfl, rfl, _, rfl, ?_⟩
      rcases hs.non with ⟨rfl, rfl⟩ | ⟨hxn, hyn⟩
      · refine iteT ?_
        refine iteT ?_
        refine ⟨_, rfl, rfl, _, rfl, iteT ?_⟩
        refine ⟨_, rfl, rfl, ?_⟩
        exact q _ (Ex.refl _)
      · rw [hyn]
        refine iteF ?_
        refine ⟨_, rfl, rfl, _, rfl, ?_⟩
        rw [hxn]
        refine iteF ?_
        -- if isinstance(due, (list, tuple))
        refine ⟨_, rfl, by show 2 ≤ sizeLine; decide, fun t1 ht1 => ?_⟩
        have e1 : Ex H (upd H t1 (.tup [.ty "list", .ty "tuple"])) := Ex.new ht1
        have ht1' := upd_same (H := H) (a := t1) (o := HO.tup [.ty "list", .ty "tuple"])
        have hs1 := hs.mono e1
        generalize upd H t1 (.tup [.ty "list", .ty "tuple"]) = H1 at e1 hs1 ht1'
        rcases hs1.hd (K := K) with ⟨t, kl, kt, kb, ki, ks, sq, g⟩ | ⟨m, a, b, kvs, lvs, rfl, rfl, rfl, ha, hb, hkk, hnd, hll, hin⟩
        · refine ⟨y, t1, [.ty "list", .ty "tuple"], _, [.type "list", .type "tuple"], _, rfl, ht1', .cons (.ty _) (.cons (.ty _) .nil), g.ty, g.q, _, rfl, ?_⟩
          cases sq with
          | false =>
            refine iteF ?_
            obtain ⟨hkd, rfl, hsc⟩ := g.no rfl
            refine ⟨_, rfl, x, .ty "dict", _, _, _, rfl, .ty _, g.ty, hkd, _, rfl, iteF ?_⟩
            refine ⟨_, rfl, x, .ty "bool", _, _, _, rfl, .ty _, g.ty, g.b, _, rfl, x, .ty "bool", _, _, _, rfl, .ty _, g.tx, g.b, rfl, _, rfl, ?_⟩
            refine iteNS rfl ?_
            refine ⟨_, rfl, x, .ty "int", _, _, _, rfl, .ty _, g.ty, g.i, _, rfl, x, .ty "int", _, _, _, rfl, .ty _, g.tx, g.i, rfl, _, rfl, ?_⟩
            refine iteNS rfl ?_
            refine ⟨_, rfl, x, .ty "str", _, _, _, rfl, .ty _, g.ty, g.s, _, rfl, x, .ty "str", _, _, _, rfl, .ty _, g.tx, g.s, rfl, _, rfl, iteDT rfl ?_⟩
            refine ⟨_, rfl, _, rfl, hsc, ?_⟩
            rw [decide_eq_true rfl]
            exact q _ e1
          | true =>
            refine iteT ?_
            -- kinds
            refine ⟨_, rfl, x, .ty "list", _, _, _, rfl, .ty _, g.tx, g.l, _, rfl, y, .ty "list", _, _, _, rfl, .ty _, g.ty, g.l, rfl, _, rfl, ?_⟩
            refine iteNS rfl ?_
            refine ⟨_, rfl, x, .ty "tuple", _, _, _, rfl, .ty _, g.tx, g.tp, _, rfl, y, .ty "tuple", _, _, _, rfl, .ty _, g.ty, g.tp, rfl, _, rfl, ?_⟩
            refine iteNS rfl ?_
            -- len(found) == len(due) and all([..])
            obtain ⟨p1, p2, xs, ys, rfl, rfl, ll, hl1, hh, ho⟩ := g.yes rfl
            have LX : LenV K (.ref p1) H1 xs.length := by
              rcases ho with ⟨h, _⟩ | ⟨h, _⟩
              · exact .inl ⟨_, sq_of h, rfl⟩
              · exact .inr ⟨_, st_of h, rfl⟩
            have LY : LenV K (.ref p2) H1 ys.length := by
              rcases ho with ⟨_, h⟩ | ⟨_, h⟩
              · exact .inl ⟨_, sq_of h, rfl⟩
              · exact .inr ⟨_, st_of h, rfl⟩
            refine ⟨_, rfl, .ref p1, _, rfl, LX, _, rfl, .ref p2, _, rfl, LY, rfl, _, rfl, iteDT (by rw [ll]) ?_⟩
            -- all([same(x, y) for x, y in zip(found, due)])
            have turn : ∀ (D : Addr) (i : Nat) (v : V) (H3 H4 : Hp), i < xs.length → (H1 D = none ∧ Ex H1 H3 ∧ H3 D = some (.lst (List.replicate i (V.bl true)))) → YPair (fun i => xs[i]?) (fun i => ys[i]?) i H3 v H4 →
                gTup K 2 (gCons (gName 3) (gCons (gName 4) gNil)) v [some (V.ref p1), some (V.ref p2), none, none, none] H4 fun σ2 H5 => wipe σ2 [3, 4] = [some (V.ref p1), some (V.ref p2), none, none, none] ∧ tYes σ2 H5 fun b H6 =>
                  if b = true then tCall (spSd n) [] (fun _ _ _ => False) (tCons (tVar 3) (tCons (tVar 4) tNil)) σ2 H6 fun y H7 => ∃ acc, H7 D = some (.lst acc) ∧ acc.length < sizeLine ∧
                    (fun i H' => H1 D = none ∧ Ex H1 H' ∧ H' D = some (.lst (List.replicate i (V.bl true)))) (i + 1) (upd H7 D (.lst (acc ++ [y]))) else (fun i H' => H1 D = none ∧ Ex H1 H' ∧ H' D = some (.lst (List.replicate i (V.bl true)))) (i + 1) H6 := by
              intro D i v H3 H4 hi hp hy4
              obtain ⟨T1, u1, u2, rfl, hT, rfl, g1, g2⟩ := hy4
              obtain ⟨hD, ex3, hD3⟩ := hp
              have ex4 : Ex H3 (upd H3 T1 (.tup [u1, u2])) := Ex.new hT
              refine ⟨T1, [u1, u2], rfl, st_of upd_same, rfl, u1, [u2], rfl, u2, [], rfl, rfl, rfl, ?_⟩
              refine ⟨u1, rfl, u2, rfl, u1, u2, rfl, (hh i u1 u2 g1 g2).mono (ex3.trans ex4), fun H7 e7 => ?_⟩
              refine ⟨_, e7 _ _ (ex4 _ _ hD3), ?_, hD, ((ex3.trans ex4).trans e7).mut hD, ?_⟩
              · rw [List.length_replicate]
                exact sz_lt (by omega)
              · rw [upd_same, List.replicate_succ']
            have fin : ∀ (D : Addr) (H' : Hp), (H1 D = none ∧ Ex H1 H' ∧ H' D = some (.lst (List.replicate xs.length (V.bl true)))) → tNil [some (V.ref p1), some (V.ref p2), none, none, none] H' fun xs H2 => rAll K (V.ref D :: xs) H2 Q := by
              intro D H' hp
              refine ⟨D, List.replicate xs.length true, rfl, sq_of (hp.2.2.trans (by rw [List.map_replicate])), ?_⟩
              rw [show (List.replicate xs.length true).all id = true by simp]
              exact q _ (e1.trans hp.2.1)
            rcases ho with ⟨h1, h2⟩ | ⟨h1, h2⟩
            · refine ⟨_, rfl, _, rfl, p1, p2, xs, ys, rfl, .inl ⟨sq_of h1, sq_of h2, fun D hD => lc_it (walk_zip (n := xs.length) (by omega)) (fun i H' => H1 D = none ∧ Ex H1 H' ∧ H' D = some (.lst (List.replicate i (V.bl true)))) ⟨hD, Ex.new hD, upd_same⟩ (fun i H' _ hp => ⟨sq_of (hp.2.1 _ _ h1), sq_of (hp.2.1 _ _ h2)⟩) (fun i v H3 H4 hi hp hy4 => turn D i v H3 H4 hi hp hy4) (fun H' hp => fin D H' hp)⟩⟩
            · refine ⟨_, rfl, _, rfl, p1, p2, xs, ys, rfl, .inr ⟨st_of h1, st_of h2, fun D hD => lc_it (walk_zipT (n := xs.length) (by omega)) (fun i H' => H1 D = none ∧ Ex H1 H' ∧ H' D = some (.lst (List.replicate i (V.bl true)))) ⟨hD, Ex.new hD, upd_same⟩ (fun i H' _ hp => ⟨st_of (hp.2.1 _ _ h1), st_of (hp.2.1 _ _ h2)⟩) (fun i v H3 H4 hi hp hy4 => turn D i v H3 H4 hi hp hy4) (fun H' hp => fin D H' hp)⟩⟩
        · have hkd : PySem.W.kitOne K (.type "dict") (.type "dict") = some true := kit_ty (a := "dict") (by decide +kernel)
          have hlen : kvs.length = lvs.length := by
            have := congrArg List.length hkk
            rw [List.length_map, List.length_map] at this
            exact this
          refine ⟨.ref b, t1, [.ty "list", .ty "tuple"], _, [.type "list", .type "tuple"], _, rfl, ht1', .cons (.ty _) (.cons (.ty _) .nil), .base (.dK hb), kit_seq K (.dict []), _, rfl, iteF ?_⟩
          refine ⟨_, rfl, .ref b, .ty "dict", _, _, true, rfl, .ty _, .base (.dK hb), hkd, _, rfl, iteT ?_⟩
          refine ⟨_, rfl, .ref a, .ty "dict", _, _, true, rfl, .ty _, .base (.dK ha), hkd, _, rfl, iteF ?_⟩
          refine ⟨_, rfl, a, kvs, rfl, ha, fun q1 hq1 => ?_⟩
          have e2 := Ex.new (o := .lst (kvs.map fun kv => kV kv.1)) hq1
          refine ⟨_, rfl, b, lvs, rfl, e2 _ _ hb, fun q2 hq2 => ?_⟩
          have e3 := Ex.new (o := .lst (lvs.map fun kv => kV kv.1)) hq2
          have hlists : (kvs.map fun kv => kV kv.1) = lvs.map fun kv => kV kv.1 := by
            have := congrArg (List.map kV) hkk
            rw [List.map_map, List.map_map] at this
            exact this
          refine ⟨.ref q1, .ref q2, rfl, .lst (e3 _ _ upd_same) upd_same (by rw [hlists]) (by rw [List.length_map]; omega) fun i u v h1 h2 => ?_, fun H5 e5 => ⟨_, rfl, iteF ?_⟩⟩
          · rw [hlists] at h1
            rw [h1] at h2
            cases h2
            rw [List.getElem?_map] at h1
            obtain ⟨kv, _, rfl⟩ := Option.map_eq_some_iff.mp h1
            exact .sc (kV_plain kv.1)
          · have e15 := (e2.trans e3).trans e5
            refine ⟨_, rfl, b, lvs, rfl, e15 _ _ hb, fun q3 hq3 => ?_⟩
            have e6 := Ex.new (o := .lst (lvs.map fun kv => kV kv.1)) hq3
            have hq3' := upd_same (H := H5) (a := q3) (o := HO.lst (lvs.map fun kv => kV kv.1))
            have e16 := e15.trans e6
            generalize upd H5 q3 (.lst (lvs.map fun kv => kV kv.1)) = H6 at e16 hq3'
            refine ⟨q3, rfl, ⟨_, sq_of hq3'⟩, fun D hD => lc_it (walk_list (xs := lvs.map fun kv => kV kv.1)) (fun i H' => H6 D = none ∧ Ex H6 H' ∧ H' D = some (.lst (List.replicate i (V.bl true)))) ⟨hD, Ex.new hD, upd_same⟩ (fun i H' _ hp => sq_of (hp.2.1 _ _ hq3')) (fun i v H7 H8 hi hp hy => ?_) (fun H' hp => ?_)⟩
            · obtain ⟨rfl, hv⟩ := hy
              obtain ⟨hD7, x7, h7⟩ := hp
              rw [List.getElem?_map] at hv
              obtain ⟨⟨k, vb⟩, hkb, rfl⟩ := Option.map_eq_some_iff.mp hv
              have hil : i < kvs.length := by
                have := (List.getElem?_eq_some_iff.mp hkb).1
                omega
              obtain ⟨va, hka⟩ : ∃ va, kvs[i]? = some (k, va) := by
                have h := congrArg (fun l => l[i]?) hkk
                simp only [List.getElem?_map, hkb] at h
                rw [List.getElem?_eq_getElem hil] at h
                have h := Option.some.inj h
                have h : kvs[i].1 = k := h
                refine ⟨kvs[i].2, ?_⟩
                rw [List.getElem?_eq_getElem hil, ← h]
              have e17 := e16.trans x7
              refine ⟨rfl, ?_⟩
              refine ⟨_, rfl, _, rfl, a, va, rfl, by rw [← valV_at (by rw [hkk]; exact hnd) hka]; exact DGet.k (e17 _ _ ha), _, rfl, _, rfl, b, vb, rfl, by rw [← valV_at hnd hkb]; exact DGet.k (e17 _ _ hb), va, vb, rfl, (hin i k va vb hka hkb).mono e17, fun H9 e9 => ?_⟩
              refine ⟨_, e9 _ _ h7, ?_, hD7, (x7.trans e9).mut hD7, ?_⟩
              · rw [List.length_replicate]
                exact sz_lt (by omega)
              · rw [upd_same, List.replicate_succ']
            · refine ⟨D, List.replicate (lvs.map fun kv => kV kv.1).length true, rfl, sq_of (hp.2.2.trans (by rw [List.map_replicate])), ?_⟩
              rw [show (List.replicate (lvs.map fun kv => kV kv.1).length true).all id = true by simp]
              exact q _ ((e1.trans e16).trans hp.2.1)
end
end Eyes

set_option Elab.async false
set_option linter.all false
set_option maxRecDepth 100000
set_option maxHeartbeats 4000000
/-! Worlds: what is checked, how one is made, its names and partings. -/
namespace Eyes
open PySem PySem.Spec PyProof.Rows L2 Evl TL
theorem kwm_World_tied_other_name_one : KwOkM "tied" "World.tied" s_World_tied p_World_tied ["other", "name", "one"] [0, 2, 3, 1] := fun _ _ _ _ _ _ us ws h1 h2 => match us, ws, h1, h2 with | [_], [_, _, _], _, _ => rfl
theorem num_in {n x : Nat} (h1 : 1 ≤ x) (h2 : x ≤ n) : numD (.int (x : Nat)) 1 (n : Int) = true := by
  show (decide ((1 : Int) ≤ (x : Int)) && decide ((x : Int) ≤ (n : Int))) = true
  rw [decide_eq_true (by omega), decide_eq_true (by omega)]
  rfl
theorem sqlt_ty {K : PySem.W.Frag} {H : Hp} {a : Addr} {us : List V} (h : SqLT K H a us) : ∃ t, TyX K H (.ref a) t ∧ PySem.W.kitAny K t [.type "list", .type "tuple"] = some true := by
  rcases h with h | h
  · refine ⟨.type "list", ?_, kit_seq K (.list [])⟩
    rcases h with h | ⟨o, its, n, h1, h2, _⟩
    · rcases h with h | ⟨o, h⟩
      · exact .base (.lst h)
      · exact .base (.frz h)
    · exact .kList h1 h2
  · refine ⟨.type "tuple", ?_, kit_seq K (.tuple [])⟩
    rcases h with h | ⟨o, its, n, h1, h2, _⟩
    · rcases h with h | ⟨o, h⟩
      · exact .base (.tup h)
      · exact .fTuple h
    · exact .kTuple h1 h2
def spCheckMany : Sp := fun vs H Q _ => ∃ n : Nat, vs = [.int (n : Int)] ∧ 1 ≤ n ∧ n ≤ 2400 ∧ Q .non H
def tieOk (n : Nat) (k : Knot) : Prop := nameS k.1 = true ∧ okS k.1 ∧ (1 ≤ k.2.1 ∧ k.2.1 ≤ n) ∧ 1 ≤ k.2.2 ∧ k.2.2 ≤ n
def spIsTie : Sp := fun vs H Q _ => ∃ (p : Addr) (n : Nat) (k : Knot), vs = [.ref p, .int (n : Int)] ∧ H p = some (.tup [.str k.1, .int (k.2.1 : Nat), .int (k.2.2 : Nat)]) ∧ tieOk n k ∧ ∀ H', Ex H H' → Q (.bl true) H'
def spCheckTies (K : PySem.W.Frag) : Sp := fun vs H Q _ => ∃ (a : Addr) (n : Nat) (us : List V) (ks : List Knot), vs = [.int (n : Int), .ref a] ∧ SqLT K H a us ∧ Knots H us ks ∧ (∀ k ∈ ks, tieOk n k) ∧ ks.length ≤ 1000 ∧ ∀ H', Ex H H' → Q .non H'
section
variable {P : Program} {w : World} {K : PySem.W.Frag} {mg : Str → Option Value} {base : Heap} {AA : Adr}
theorem ok_check_many (T : Txt K mg AA) : Pr P w K mg base "check_many" s_check_many p_check_many 2 spCheckMany := by
  refine pr_mk T.f_check_many sc_check_many (fun vs H Q E h => ?_) (fun f cdv A outer s H vs Q E hr h => ?_)
  · obtain ⟨n, rfl, _⟩ := h
    rfl
  · obtain ⟨n, rfl, h1, h2, q⟩ := h
    refine ⟨_, (pss_one (ps_if (pt_not (pt_val (pcall (ok_is_number T) hr (pa_cons (pv 0) (pa_cons pe_int (pa_cons (ClX.pe_cval (pe_glob (v := .ref AA.World) (by rfl) T.m_World rfl)) pa_nil))))))
      (pss_one ps_never)
      pss_nil)), ?_⟩
    obtain ⟨tk, hcr, hcv⟩ := T.k_World_LIMIT
    refine ⟨_, rfl, AA.World, _, _, _, rfl, hcr, hcv, .int n, .int n, 1, 2400, rfl, .int _, ?_⟩
    refine ⟨_, rfl, ?_⟩
    have e : numD (.int (n : Nat)) 1 2400 = true := num_in (n := 2400) h1 h2
    rw [e]
    exact iteF q
theorem ok_is_tie (T : Txt K mg AA) : Pr P w K mg base "is_tie" s_is_tie p_is_tie 2 spIsTie := by
  refine pr_mk T.f_is_tie sc_is_tie (fun vs H Q E h => ?_) (fun f cdv A outer s H vs Q E hr h => ?_)
  · obtain ⟨p, n, k, rfl, _⟩ := h
    rfl
  · obtain ⟨p, n, k, rfl, hp, ⟨hk1, hk2, hk3, hk4⟩, q⟩ := h
    refine ⟨_, (pss_cons (ps_if (PW.pt (pw_or (pt_not (pt_val (pe_callB (call_isiK (K := K) rfl) (by rfl) T.n_isinstance PyProof.Rows.boot_isinstance (pa_cons (pv 0) (pa_cons (pe_bltn (v := .ty "tuple") (by rfl) T.n_tuple (by decide +kernel) rfl) pa_nil))))) (pw_or1 (pt_cmpR op_ne (pe_callB (call_len_seqK (K := K) rfl) (by rfl) T.n_len PySem.boot_len (pa_cons (pv 0) pa_nil)) pe_int (nomark _)))))
      (pss_one (ps_ret pe_bl))
      pss_nil)
      (pss_one (ps_ret (pe_and (pcall (ok_is_name T) hr (pa_cons (pe_ix (ix_tupK (K := K) rfl) (pv 0) pe_int (fun _ _ => rfl)) pa_nil)) (pe_and (pcall (ok_is_number T) hr (pa_cons (pe_ix (ix_tupK (K := K) rfl) (pv 0) pe_int (fun _ _ => rfl)) (pa_cons pe_int (pa_cons (pv 1) pa_nil)))) (pe_one (pcall (ok_is_number T) hr (pa_cons (pe_ix (ix_tupK (K := K) rfl) (pv 0) pe_int (fun _ _ => rfl)) (pa_cons pe_int (pa_cons (pv 1) pa_nil)))))))))), ?_⟩
    have ht : TyX K H (.ref p) (.type "tuple") := .base (.tup hp)
    have hkt : PySem.W.kitOne K (.type "tuple") (.type "tuple") = some true := kit_ty (a := "tuple") (by decide +kernel)
    refine ⟨_, rfl, .ref p, .ty "tuple", _, _, true, rfl, .ty _, ht, hkt, _, rfl, iteF ?_⟩
    have h0 : atI [V.str k.1, .int (k.2.1 : Nat), .int (k.2.2 : Nat)] 0 = some (.str k.1) := rfl
    have h1 : atI [V.str k.1, .int (k.2.1 : Nat), .int (k.2.2 : Nat)] 1 = some (.int (k.2.1 : Nat)) := rfl
    have h2 : atI [V.str k.1, .int (k.2.1 : Nat), .int (k.2.2 : Nat)] 2 = some (.int (k.2.2 : Nat)) := rfl
    refine ⟨_, rfl, p, _, rfl, .inr (st_of hp), rfl, _, rfl, iteNS rfl ?_⟩
    refine ⟨_, rfl, p, _, 0, _, rfl, rfl, st_of hp, h0, .str k.1, .s k.1, rfl, ⟨rfl, hk2⟩, fun H1 e1 => ⟨_, rfl, ?_⟩⟩
    rw [show nameK (.s k.1) = true from hk1]
    have hp1 := e1 _ _ hp
    refine iteT ⟨_, rfl, p, _, 1, _, rfl, rfl, st_of hp1, h1, _, rfl, .int (k.2.1 : Nat), .int (k.2.1 : Nat), 1, n, rfl, .int _, ⟨_, rfl, ?_⟩⟩
    rw [num_in hk3.1 hk3.2]
    refine iteT ⟨_, rfl, p, _, 2, _, rfl, rfl, st_of hp1, h2, _, rfl, .int (k.2.2 : Nat), .int (k.2.2 : Nat), 1, n, rfl, .int _, ?_⟩
    rw [num_in hk4.1 hk4.2]
    exact q H1 e1
theorem ok_check_ties (T : Txt K mg AA) : Pr P w K mg base "check_ties" s_check_ties p_check_ties 3 (spCheckTies K) := by
  refine pr_mk T.f_check_ties sc_check_ties (fun vs H Q E h => ?_) (fun f cdv A outer s H vs Q E hr h => ?_)
  · obtain ⟨p, n, k, ks, rfl, _⟩ := h
    rfl
  · obtain ⟨a, n, us, ks, rfl, ha, hk, hks, hkl, q⟩ := h
    refine ⟨_, (pss_cons (ps_if (pt_not (pt_val (pe_callB call_isiT (by rfl) T.n_isinstance PyProof.Rows.boot_isinstance (pa_cons (pv 1) (pa_cons (pe_tup (pa_cons (pe_bltn (v := .ty "list") (by rfl) T.n_list (by decide +kernel) rfl) (pa_cons (pe_bltn (v := .ty "tuple") (by rfl) T.n_tuple (by decide +kernel) rfl) pa_nil))) pa_nil)))))
      (pss_one ps_never)
      pss_nil)
      (pss_one (ps_for PassesOwn.never rfl (pi_or (pi_enum (by rfl) T.n_enumerate (pa_cons (pv 1) pa_nil)) (pi_enumT (by rfl) T.n_enumerate (pa_cons (pv 1) pa_nil))) (pg_tup (by rfl) (pgs_cons (pg_name (i := 2) sc_check_ties.nd rfl (.inl rfl)) (pgs_cons (pg_name (i := 3) sc_check_ties.nd rfl (.inl rfl)) pgs_nil)))
      (pss_one (ps_if (pt_not (pt_val (pcall (ok_is_tie T) hr (pa_cons (pv 3) (pa_cons (pv 0) pa_nil)))))
      (pss_one ps_never)
      pss_nil))))), ?_⟩
    refine ⟨_, rfl, by show 2 ≤ sizeLine; decide, fun t1 ht1 => ?_⟩
    have e1 : Ex H (upd H t1 (.tup [.ty "list", .ty "tuple"])) := Ex.new ht1
    obtain ⟨tt, hty, hkk⟩ := sqlt_ty (ex_lt e1 ha)
    refine ⟨.ref a, t1, [.ty "list", .ty "tuple"], _, [.type "list", .type "tuple"], _, rfl, upd_same, .cons (.ty _) (.cons (.ty _) .nil), hty, hkk, _, rfl, iteF ?_⟩
    generalize upd H t1 (.tup [.ty "list", .ty "tuple"]) = H1 at e1
    have step : ∀ (i : Nat) (v : V) (σ : L2.St) (H5 H6 : Hp), i < us.length → (∃ y2 y3, σ = [some (.int (n : Int)), some (.ref a), y2, y3] ∧ Ex H1 H5) → YPair (fun i => some (.int (0 + (i : Nat)))) (fun i => us[i]?) i H5 v H6 → ∃ (T1 p : Addr) (u1 : V) (k : Knot), v = .ref T1 ∧ H6 = upd H5 T1 (.tup [u1, .ref p]) ∧ H5 T1 = none ∧ Ex H1 H6 ∧ H6 p = some (.tup [.str k.1, .int (k.2.1 : Nat), .int (k.2.2 : Nat)]) ∧ tieOk n k := fun i v σ H5 H6 hi hp hy => by
      obtain ⟨y2, y3, rfl, e2⟩ := hp
      obtain ⟨T1, u1, u2, rfl, hT, rfl, g1, g2⟩ := hy
      have hik : i < ks.length := by rw [← hk.1]; exact hi
      obtain ⟨p, rfl, hp⟩ := hk.2 i u2 ks[i] g2 (List.getElem?_eq_getElem hik)
      have e3 : Ex H5 (upd H5 T1 (.tup [u1, .ref p])) := Ex.new hT
      exact ⟨T1, p, u1, ks[i], rfl, rfl, hT, e2.trans e3, ((e1.trans e2).trans e3) _ _ hp, hks _ (List.getElem_mem hik)⟩
    rcases ha with ha | ha
    · refine .inl ⟨_, rfl, a, us, rfl, ex_l e1 ha, ?_⟩
      refine for_it (walk_enum (xs := us)) (fun i σ H' => ∃ y2 y3, σ = [some (.int (n : Int)), some (.ref a), y2, y3] ∧ Ex H1 H') ⟨none, none, rfl, Ex.refl _⟩ (fun i σ H' _ hp => ?_) (fun i v σ H5 H6 hi hp hy => ?_) (fun σ H' hp => ?_)
      · obtain ⟨_, _, _, e⟩ := hp
        exact ex_l (e1.trans e) ha
      · obtain ⟨T1, u1, u2, hv, hT, hH, g1, g2⟩ := hy
        obtain ⟨T1, p, u1, k, rfl, rfl, hT, x6, hp6, hok⟩ := step i v σ H5 H6 hi hp ⟨T1, .int (0 + (i : Nat)), u2, hv, hT, by rw [hH, ← Option.some.inj g1, Int.zero_add], rfl, g2⟩
        obtain ⟨y2, y3, rfl, e2⟩ := hp
        refine ⟨T1, _, rfl, st_of upd_same, rfl, _, _, rfl, _, _, rfl, rfl, ?_⟩
        exact ⟨_, rfl, _, rfl, p, n, k, rfl, hp6, hok, fun H7 e7 => ⟨_, rfl, iteF ⟨_, _, rfl, x6.trans e7⟩⟩⟩
      · obtain ⟨_, _, rfl, e⟩ := hp
        exact q _ (e1.trans e)
    · refine .inr ⟨_, rfl, a, us, rfl, ex_t e1 ha, ?_⟩
      refine for_it (walk_enumT (k := 0) (xs := us)) (fun i σ H' => ∃ y2 y3, σ = [some (.int (n : Int)), some (.ref a), y2, y3] ∧ Ex H1 H') ⟨none, none, rfl, Ex.refl _⟩ (fun i σ H' _ hp => ?_) (fun i v σ H5 H6 hi hp hy => ?_) (fun σ H' hp => ?_)
      · obtain ⟨_, _, _, e⟩ := hp
        exact ex_t (e1.trans e) ha
      · obtain ⟨T1, p, u1, k, rfl, rfl, hT, x6, hp6, hok⟩ := step i v σ H5 H6 hi hp hy
        obtain ⟨y2, y3, rfl, e2⟩ := hp
        refine ⟨T1, _, rfl, st_of upd_same, rfl, _, _, rfl, _, _, rfl, rfl, ?_⟩
        exact ⟨_, rfl, _, rfl, p, n, k, rfl, hp6, hok, fun H7 e7 => ⟨_, rfl, iteF ⟨_, _, rfl, x6.trans e7⟩⟩⟩
      · obtain ⟨_, _, rfl, e⟩ := hp
        exact q _ (e1.trans e)
end
end Eyes

set_option Elab.async false
set_option linter.all false
set_option maxRecDepth 100000
set_option maxHeartbeats 4000000
/-! Worlds: how one is made, its names and partings. -/
namespace Eyes
open PySem PySem.Spec PyProof.Rows L2 Evl TL
def wfl (n : Nat) (D : Addr) : List (Str × V) := putF "_partings" (.ref D) (putF "many" (.int (n : Int)) [])
section
variable {n : Nat} {D : Addr}
theorem wf_part : (wfl n D).lookup ("_partings" : Str) = some (.ref D) := by
  unfold wfl
  rw [lookup_putF, if_pos rfl]
theorem wf_many : (wfl n D).lookup ("many" : Str) = some (.int (n : Int)) := by
  unfold wfl
  rw [lookup_putF, if_neg (by decide +kernel), lookup_putF, if_pos rfl]
theorem wf_no {m : Str} (h1 : ¬ m = ("_partings" : Str)) (h2 : ¬ m = ("many" : Str)) : (wfl n D).lookup m = none := by
  unfold wfl
  rw [lookup_putF, if_neg h1, lookup_putF, if_neg h2]
  rfl
end
def WorldAt (C : Addr) (H : Hp) (v : V) (n : Nat) (f : Vw) : Prop := ∃ p dx D, v = .ref p ∧ H p = some (.ins C dx (wfl n D)) ∧ VwAt H D n f
theorem WorldAt.mono {C : Addr} {H H' : Hp} {v : V} {n : Nat} {f : Vw} (e : Ex H H') (h : WorldAt C H v n f) : WorldAt C H' v n f := by
  obtain ⟨p, dx, D, h1, h2, h3⟩ := h
  exact ⟨p, dx, D, h1, e _ _ h2, h3.mono e⟩
def spInitW (K : PySem.W.Frag) (C : Addr) : Sp := fun vs H Q _ => ∃ (x dx a : Addr) (n : Nat) (us : List V) (ks : List Knot) (G : Hp), vs = [.ref x, .int (n : Int), .ref a] ∧ G x = none ∧ Ex G H ∧ H x = some (.ins C dx []) ∧ SqLT K G a us ∧ Knots G us ks ∧ ks.length < 64 ∧ (∀ k ∈ ks, tieOk n k) ∧ 1 ≤ n ∧ n ≤ 2400 ∧
  ∀ H' ys, Ex G H' → ys.Perm ((knotsV n ks).map (·.1)) → sortedS ys = true → WorldAt C H' (.ref x) n (seenV n (knotsV n ks) ys) → Q .non H'
def spEyesW (C : Addr) : Sp := fun vs H Q _ => ∃ (v : V) (n : Nat) (f : Vw), vs = [v] ∧ WorldAt C H v n f ∧ ∀ l H', Ex H H' → H l = none → H' l = some (.lst ((f.map (·.1)).map V.str)) → Q (.ref l) H'
def spPartsW (C : Addr) : Sp := fun vs H Q _ => ∃ (v : V) (n : Nat) (f : Vw), vs = [v] ∧ WorldAt C H v n f ∧ ∀ D H', Ex H H' → H D = none → VwAt H' D n f → Q (.ref D) H'
def spNamedW (C : Addr) : Sp := fun vs H Q _ => ∃ (v : V) (n : Nat) (f : Vw) (t : Str), vs = [v, .str t] ∧ n ≤ 4096 ∧ WorldAt C H v n f ∧ ∀ r H', Ex H H' → H' r = some (.tup (nvs ((wGet f t).getD (alone n)))) → Q (.ref r) H'
def spLenW (C : Addr) : Sp := fun vs H Q _ => ∃ (v : V) (n : Nat) (f : Vw), vs = [v] ∧ n ≤ 4096 ∧ WorldAt C H v n f ∧ Q (.int (n : Int)) H
section
variable {P : Program} {w : World} {K : PySem.W.Frag} {mg : Str → Option Value} {base : Heap} {AA : Adr}
theorem world_len {vs : List V} {H : Hp} {Q : VK} {E : XK} (h : spInitW K AA.World vs H Q E) : vs.length = p_World___init.length := by
  obtain ⟨x, dx, a, n, us, ks, G, rfl, _⟩ := h
  rfl
theorem world_body (T : Txt K mg AA) (f : Addr) (cdv : Value) (A : Around) (outer : List Env) (s : Shared) (H : Hp) (vs : List V) (Q : VK) (E : XK) (hr : Room 4 (A.deeper (envOfC "World.__init__" (defScope s_World___init) s.heap.objs.size f cdv))) (h : spInitW K AA.World vs H Q E) :
    ∃ t, PSs (cxOf CX0 P w K mg base n_World___init "World.__init__" (defScope s_World___init) f cdv A outer s H E).nox (defBody s_World___init) t ∧ t { nx := fun _ H' => Q .non H', rt := Q } (L2.start n_World___init vs) H := by
  obtain ⟨x, dx, a, n, us, ks, G, rfl, hG, ex, hx, ha, hk, hkl, hks, h1, h2, q⟩ := h
  refine ⟨_, (pss_cons (ps_expr (pcall (ok_check_many T) hr (pa_cons (pv 1) pa_nil)))
      (pss_cons (ps_expr (pcall (ok_check_ties T) hr (pa_cons (pv 1) (pa_cons (pv 2) pa_nil))))
      (pss_cons (ps_fld (pv 0) (pv 1) rfl)
      (pss_one (ps_fld (pv 0) (pcall (ok_counting T) hr (pa_cons (pv 1) (pa_cons (pcall (ok_tied_partings T) hr (pa_cons (pv 1) (pa_cons (pv 2) pa_nil))) pa_nil))) rfl))))), ?_⟩
  refine ⟨_, rfl, n, rfl, h1, h2, ?_⟩
  refine ⟨_, rfl, _, rfl, a, n, us, ks, rfl, ex_lt ex ha, hk.mono ex, hks, by omega, fun H1 e1 => ?_⟩
  have x1 := ex.trans e1
  refine ⟨_, rfl, _, rfl, x, AA.World, dx, _, rfl, e1 _ _ hx, T.c_World, T.a_World_many, by decide, ?_⟩
  have x2 := x1.mut (o := .ins AA.World dx (putF "many" (.int (n : Int)) [])) hG
  have hx2 := upd_same (H := H1) (a := x) (o := HO.ins AA.World dx (putF "many" (.int (n : Int)) []))
  generalize upd H1 x (.ins AA.World dx (putF "many" (.int (n : Int)) [])) = H2 at x2 hx2
  have hin : ∀ k ∈ ks, 1 ≤ k.2.1 ∧ k.2.1 ≤ n ∧ 1 ≤ k.2.2 ∧ k.2.2 ≤ n := fun k hk => ⟨(hks k hk).2.2.1.1, (hks k hk).2.2.1.2, (hks k hk).2.2.2.1, (hks k hk).2.2.2.2⟩
  refine ⟨_, rfl, _, rfl, _, rfl, n, a, us, ks, rfl, by omega, ex_lt x2 ha, hk.mono x2, by omega, hin, fun D1 H3 e3 hD1 hV => ?_⟩
  refine ⟨n, D1, _, rfl, by omega, hV, Nat.lt_of_le_of_lt (knotsV_len n ks) hkl, knotsV_nodup n ks, fun D2 H4 ys e4 hD2 hys hso hV2 => ?_⟩
  have hx4 := e4 _ _ (e3 _ _ hx2)
  have x4 := (x2.trans e3).trans e4
  refine ⟨_, rfl, x, AA.World, dx, _, rfl, hx4, T.c_World, T.a_World_partings, by show 1 < 1000; decide, ?_⟩
  obtain ⟨W, g1, g2, g3⟩ := hV2
  have hne : D2 ≠ x := fun z => by
    rw [z, hx4] at g1
    cases g1
  refine q _ ys (x4.mut hG) hys hso ⟨x, dx, D2, rfl, upd_same, W, (upd_ne hne).trans g1, g2, fun e he => ⟨?_, (g3 e he).2⟩⟩
  have g := (g3 e he).1
  rw [upd_ne fun z => by rw [z, hx4] at g; cases g]
  exact g
theorem ok_World___init (T : Txt K mg AA) : PrI P w K mg base AA.World p_World___init 5 (spInitW K AA.World) := priD_mk T.i_World sc_World___init (fun vs H Q E h => world_len h) fun f cdv A outer s H vs Q E hr h => world_body T f cdv A outer s H vs Q E hr h
theorem ok_World_eyes (T : Txt K mg AA) : PrM P w K mg base AA.World "eyes" p_World_eyes 1 (spEyesW AA.World) := by
  refine prm_mk T.t_World_eyes sc_World_eyes (fun vs H Q E h => ?_) (fun f cdv A outer s H vs Q E hr h => ?_)
  · obtain ⟨v, n, f, rfl, _⟩ := h
    rfl
  · obtain ⟨v, n, f, rfl, ⟨p, dx, D, rfl, hp, W, g1, g2, g3⟩, q⟩ := h
    refine ⟨_, (pss_one (ps_ret (pe_callTy (call_list_dK rfl) (by rfl) T.n_list PyProof.Rows.boot_list (pa_cons (pe_fldK (K := K) rfl (pv 0) rfl) pa_nil)))), ?_⟩
    refine ⟨_, rfl, p, AA.World, dx, _, _, rfl, hp, T.c_World, T.a_World_partings, wf_part, D, _, rfl, g1, fun l hl => ?_⟩
    have e : ((vK W).map fun kv => kV kv.1) = (f.map (·.1)).map V.str := by
      rw [← g2]
      unfold vK vW
      rw [List.map_map, List.map_map, List.map_map]
      rfl
    rw [e]
    exact q l _ (Ex.new hl) hl upd_same
theorem ok_World_partings (T : Txt K mg AA) : PrM P w K mg base AA.World "partings" p_World_partings 1 (spPartsW AA.World) := by
  refine prm_mk T.t_World_partings sc_World_partings (fun vs H Q E h => ?_) (fun f cdv A outer s H vs Q E hr h => ?_)
  · obtain ⟨v, n, f, rfl, _⟩ := h
    rfl
  · obtain ⟨v, n, f, rfl, ⟨p, dx, D, rfl, hp, W, g1, g2, g3⟩, q⟩ := h
    refine ⟨_, (pss_one (ps_ret (pe_callTy call_dictD (by rfl) T.n_dict PyProof.Rows.boot_dict (pa_cons (pe_fldK (K := K) rfl (pv 0) rfl) pa_nil)))), ?_⟩
    refine ⟨_, rfl, p, AA.World, dx, _, _, rfl, hp, T.c_World, T.a_World_partings, wf_part, D, _, rfl, .inl g1, fun l hl => ?_⟩
    exact q l _ (Ex.new hl) hl ⟨W, upd_same, g2, fun e he => ⟨Ex.new hl _ _ (g3 e he).1, (g3 e he).2⟩⟩
theorem ok_World_parting_named (T : Txt K mg AA) : PrM P w K mg base AA.World "parting_named" p_World_parting_named 2 (spNamedW AA.World) := by
  refine prm_mk T.t_World_parting_named sc_World_parting_named (fun vs H Q E h => ?_) (fun f cdv A outer s H vs Q E hr h => ?_)
  · obtain ⟨v, n, f, t, rfl, _⟩ := h
    rfl
  · obtain ⟨v, n, f, t, rfl, hn, ⟨p, dx, D, rfl, hp, hV⟩, q⟩ := h
    refine ⟨_, (pss_one (ps_ret (pe_dget2 (hu_of hr) (pe_fldK (K := K) rfl (pv 0) rfl) (pv 1) (pcall (ok_apart T) hr (pa_cons (pe_fldK (K := K) rfl (pv 0) rfl) pa_nil)) ⟨by rfl, by rfl, by rfl, by rfl⟩))), ?_⟩
    obtain ⟨kvs, hk, hg⟩ := hV.get t
    refine ⟨_, rfl, p, AA.World, dx, _, _, rfl, hp, T.c_World, T.a_World_partings, wf_part, D, rfl, .inl ⟨_, .inl hk⟩, _, rfl, _, rfl, p, AA.World, dx, _, _, rfl, hp, T.c_World, T.a_World_many, wf_many, n, rfl, hn, fun r hr => ?_⟩
    have e := Ex.new (o := .tup (nvs (alone n))) hr
    obtain ⟨b, hb1, hb2⟩ := hg r _ e upd_same
    refine ⟨_, DGet.k (k := .inr t) (e _ _ hk), ?_⟩
    rw [hb1]
    exact q b _ e hb2
theorem ok_World___len (T : Txt K mg AA) : PrM P w K mg base AA.World "__len__" p_World___len 1 (spLenW AA.World) := by
  refine prm_mk T.t_World___len sc_World___len (fun vs H Q E h => ?_) (fun f cdv A outer s H vs Q E hr h => ?_)
  · obtain ⟨v, n, f, rfl, _⟩ := h
    rfl
  · obtain ⟨v, n, f, rfl, hn, ⟨p, dx, D, rfl, hp, hV⟩, q⟩ := h
    refine ⟨_, (pss_one (ps_ret (pe_lenRg (by rfl) T.n_len (prg_1 (by rfl) T.n_range (pe_fldK (K := K) rfl (pv 0) rfl))))), ?_⟩
    refine ⟨_, rfl, p, AA.World, dx, _, _, rfl, hp, T.c_World, T.a_World_many, wf_many, n, rfl, RgOk.of_le (by omega) (by omega) (by omega) (by omega), ?_⟩
    rw [show ((n : Int) - 0).toNat = n by omega]
    exact q
end
end Eyes

set_option Elab.async false
set_option linter.all false
set_option maxRecDepth 100000
set_option maxHeartbeats 4000000
/-! Worlds: text, str, repr. -/
namespace Eyes
open PySem PySem.Spec PyProof.Rows L2 Evl TL
/-! ### the text of a world -/
def natS (n : Nat) : Str := Str.ofString (toString (n : Int))
theorem natS_len {n : Nat} (h : n ≤ 4096) : (natS n).length ≤ 4 := toString_length_le (by omega) (by decide) (by omega)
theorem natS_log {n : Nat} (h : n ≤ 4096) : ((n : Nat) : Int).natAbs.log2 < 1920 := by
  rw [Int.natAbs_natCast]
  by_cases h0 : n = 0
  · subst h0
    decide
  · refine (Nat.log2_lt h0).mpr (Nat.lt_of_le_of_lt h ?_)
    exact Nat.lt_of_lt_of_le (show 4096 < 2 ^ 13 by decide) (Nat.pow_le_pow_right (by decide) (by decide))
theorem sumB {l : List Str} {c : Nat} (h : ∀ s ∈ l, s.length ≤ c) : (l.map (·.length)).sum ≤ l.length * c := by
  induction l with
  | nil => exact Nat.zero_le _
  | cons a l ih =>
    rw [List.map_cons, List.sum_cons, List.length_cons, Nat.succ_mul]
    have := ih fun s hs => h s (List.mem_cons_of_mem _ hs)
    have := h a List.mem_cons_self
    omega
theorem join_len {S : Str} {l : List Str} {c : Nat} (h : ∀ s ∈ l, s.length ≤ c) : (Txt.join S l).length ≤ l.length * (c + S.length) := by
  rw [len_tl, TL.join_eq, tl_join]
  have h1 := joinL_len (tl S) (l.map tl)
  have h2 : ((l.map tl).map List.length).sum ≤ l.length * c := by
    rw [List.map_map]
    have h3 := sumB h
    have e : (l.map (·.length)) = l.map (List.length ∘ tl) := List.map_congr_left fun s _ => len_tl s
    rw [← e]
    exact h3
  rw [List.length_map, ← len_tl] at h1
  rw [Nat.mul_add, Nat.mul_comm l.length S.length]
  omega
def rowS (t : Str) (p : List Nat) : Str := t ++ Str.ofString " " ++ Txt.join (Str.ofString " ") (p.map natS) ++ Str.ofString "\n"
def headS (n : Nat) : Str := Str.ofString "cases " ++ natS n ++ Str.ofString "\n"
def chapS (n : Nat) (f : Vw) : Str := headS n ++ Txt.join (Str.ofString "") (f.map fun e => rowS e.1 e.2)
def fewV (n : Nat) (f : Vw) : Prop := n ≤ 4096 ∧ f.length ≤ 64 ∧ ∀ e ∈ f, e.1.length ≤ 1000 ∧ IsP n e.2
theorem items_len {n : Nat} {p : List Nat} (hn : n ≤ 4096) (hP : IsP n p) : (∀ s ∈ p.map natS, s.length ≤ 4) ∧ (Txt.join (Str.ofString " ") (p.map natS)).length ≤ n * 5 := by
  have h : ∀ s ∈ p.map natS, s.length ≤ 4 := fun s hs => by
    obtain ⟨x, hx, rfl⟩ := List.mem_map.mp hs
    obtain ⟨i, hi, rfl⟩ := List.getElem_of_mem hx
    have hi2 : i < n := by rw [← hP.len]; exact hi
    have lo := hP.lo (i + 1) (by omega) (by omega)
    have e := itm_get (p := p) (x := i + 1) (by omega) (by omega)
    rw [Nat.add_sub_cancel, List.getElem?_eq_getElem hi] at e
    rw [Option.some.inj e]
    exact natS_len (by omega)
  refine ⟨h, ?_⟩
  have := join_len (S := Str.ofString " ") h
  rw [List.length_map, hP.len] at this
  exact this
theorem row_len {n : Nat} {t : Str} {p : List Nat} (hn : n ≤ 4096) (hP : IsP n p) (ht : t.length ≤ 1000) : (rowS t p).length ≤ 25000 := by
  have := (items_len hn hP).2
  unfold rowS
  rw [Str.length_append, Str.length_append, Str.length_append]
  have e1 : (Str.ofString " ").length = 1 := by decide +kernel
  have e2 : (Str.ofString "\n").length = 1 := by decide +kernel
  omega
theorem head_len {n : Nat} (hn : n ≤ 4096) : (headS n).length ≤ 11 := by
  have := natS_len hn
  unfold headS
  rw [Str.length_append, Str.length_append]
  have e1 : (Str.ofString "cases ").length = 6 := by decide +kernel
  have e2 : (Str.ofString "\n").length = 1 := by decide +kernel
  omega
theorem rows_len {n : Nat} {f : Vw} (h : fewV n f) : ∀ s ∈ f.map (fun e => rowS e.1 e.2), s.length ≤ 25000 := fun s hs => by
  obtain ⟨e, he, rfl⟩ := List.mem_map.mp hs
  exact row_len h.1 (h.2.2 e he).2 (h.2.2 e he).1
theorem chap_len {n : Nat} {f : Vw} (h : fewV n f) : (chapS n f).length ≤ 1700000 := by
  unfold chapS
  rw [Str.length_append]
  have h1 := join_len (S := Str.ofString "") (rows_len h)
  have h2 := head_len h.1
  rw [List.length_map] at h1
  have e1 : (Str.ofString "").length = 0 := by decide +kernel
  have : f.length * (25000 + (Str.ofString "").length) ≤ 64 * (25000 + (Str.ofString "").length) := Nat.mul_le_mul_right _ h.2.1
  omega
theorem chap_join {n : Nat} {f : Vw} : Txt.join (Str.ofString "") (headS n :: f.map fun e => rowS e.1 e.2) = chapS n f := by
  refine ext_tl ?_
  unfold chapS
  have e : tl (Str.ofString "") = [] := rfl
  rw [tl_append, TL.join_eq, tl_join, TL.join_eq, tl_join, e, joinL_nil, joinL_nil]
  rfl
theorem empty_app (t : Str) : Str.empty ++ t = t := ext_tl (by rw [tl_append]; rfl)
def spTextW (C : Addr) : Sp := fun vs H Q _ => ∃ (v : V) (n : Nat) (f : Vw), vs = [v] ∧ fewV n f ∧ WorldAt C H v n f ∧ ∀ H', Ex H H' → Q (.str (chapS n f)) H'
def reprS (n : Nat) : Str := Str.ofString "World(" ++ natS n ++ Str.ofString " cases)"
def spReprW (C : Addr) : Sp := fun vs H Q _ => ∃ (v : V) (n : Nat) (f : Vw), vs = [v] ∧ n ≤ 4096 ∧ WorldAt C H v n f ∧ Q (.str (reprS n)) H
section
variable {P : Program} {w : World} {K : PySem.W.Frag} {mg : Str → Option Value} {base : Heap} {AA : Adr}
theorem ok_World_text (T : Txt K mg AA) : PrM P w K mg base AA.World "text" p_World_text 1 (spTextW AA.World) := by
  refine prm_mk T.t_World_text sc_World_text (fun vs H Q E h => ?_) (fun f cdv A outer s H vs Q E hr h => ?_)
  · obtain ⟨v, n, f, rfl, _⟩ := h
    rfl
  · obtain ⟨v, n, f, rfl, hf, ⟨p, dx, D, rfl, hp, W, g1, g2, g3⟩, q⟩ := h
    refine ⟨_, (pss_cons (ps_set (i := 1) sc_World_text.nd rfl (.inl rfl) (pe_lst (pa_cons (pe_joined (PJ.cons pe_str (PJ.cons (pe_fmt (pe_fldK (K := K) rfl (pv 0) rfl)) (PJ.cons pe_str PJ.nil)))) pa_nil)))
      (pss_cons (ps_lock (ps_for PassesOwn.never rfl (pi_items (pe_fldK (K := K) rfl (pv 0) rfl)) (pg_tup (by rfl) (pgs_cons (pg_name (i := 2) sc_World_text.nd rfl (.inl rfl)) (pgs_cons (pg_name (i := 3) sc_World_text.nd rfl (.inl rfl)) pgs_nil)))
      (pss_cons (ps_set (i := 4) sc_World_text.nd rfl (.inl rfl) (pe_join pe_str (pe_lc (own := [("item", 5)]) (g := gName 5) (tt := tYes) rfl sc_World_text.nd (pi_tup (pv 3)) (blkOk_by (own := [("item", 5)]) (N := n_World_text) (sc := defScope s_World_text) (by decide +kernel)) (fun _ _ _ _ _ => (pg_name (i := 5) sc_World_text.nd rfl (.inl rfl))) (fun _ _ _ _ _ => pts_nil) (fun _ _ _ _ _ => (pe_callTy call_str_int (by rfl) T.n_str PyProof.Rows.boot_str (pa_cons (pv 5) pa_nil))))))
      (pss_one (ps_expr (pe_bm PySem.F.plainAttrs_list PySem.F.slot_list_append PySem.F.type_list_append mt_append (pv 1) (pa_cons (pe_joined (PJ.cons (pe_fmt (pv 2)) (PJ.cons pe_str (PJ.cons (pe_fmt (pv 4)) (PJ.cons pe_str PJ.nil))))) pa_nil)))))))
      (pss_one (ps_ret (pe_join pe_str (pv 1)))))), ?_⟩
    have hn := hf.1
    have e1 : (Str.ofString "cases ").length = 6 := by decide +kernel
    have e2 : (Str.ofString "\n").length = 1 := by decide +kernel
    have e3 : (Str.ofString " ").length = 1 := by decide +kernel
    have hl := natS_len hn
    have big : 16777216 ≤ sizeLine := by rw [sizeLine_eq]; decide
    refine ⟨_, rfl, ?_, _, rfl, p, AA.World, dx, _, _, rfl, hp, T.c_World, T.a_World_many, wf_many, .inr ⟨n, rfl, natS_log hn, natS n, rfl, ?_, Str.ofString "\n", rfl, ?_, ?_⟩⟩
    · rw [empty_app, e1]
      omega
    · rw [empty_app, Str.length_append, e1]
      omega
    · rw [empty_app, Str.length_append, Str.length_append, e1, e2]
      omega
    rw [empty_app, show Str.ofString "cases " ++ natS n ++ Str.ofString "\n" = headS n from rfl]
    show 1 ≤ sizeLine ∧ _
    refine ⟨by omega, fun L hL => ?_⟩
    have hLD : D ≠ L := fun z => by
      rw [← z, g1] at hL
      cases hL
    have hLp : p ≠ L := fun z => by
      rw [← z, hp] at hL
      cases hL
    have x0 := Ex.new (o := .lst [.str (headS n)]) hL
    have hL0 := upd_same (H := H) (a := L) (o := HO.lst [.str (headS n)])
    have hD0 := x0 _ _ g1
    have hp0 := x0 _ _ hp
    have g30 : ∀ e ∈ W, upd H L (.lst [.str (headS n)]) e.2.1 = some (.tup (nvs e.2.2)) ∧ IsP n e.2.2 := fun e he => ⟨x0 _ _ (g3 e he).1, (g3 e he).2⟩
    refine ⟨D, _, hD0, True.intro, fun od => ?_⟩
    have hex := ex_both (p := D) (o := .frz od (.dK (vK W))) x0
    have hfL : upd H D (.frz od (.dK (vK W))) L = none := (upd_ne fun z => hLD z.symm).trans hL
    have hfD : upd H D (.frz od (.dK (vK W))) D = some (.frz od (.dK (vK W))) := upd_same
    have hfp : upd H D (.frz od (.dK (vK W))) p = some (.ins AA.World dx (wfl n D)) := (upd_ne fun z => by rw [z, g1] at hp; cases hp).trans hp
    have hfW : ∀ e ∈ W, upd H D (.frz od (.dK (vK W))) e.2.1 = some (.tup (nvs e.2.2)) ∧ IsP n e.2.2 := fun e he => ⟨(upd_ne fun z => by
      have := (g3 e he).1
      rw [z, g1] at this
      cases this).trans (g3 e he).1, (g3 e he).2⟩
    have hxL : upd (upd H L (.lst [.str (headS n)])) D (.frz od (.dK (vK W))) L = some (.lst [.str (headS n)]) := (upd_ne fun z => hLD z.symm).trans hL0
    have eHf : Ex H (upd (upd H D (.frz od (.dK (vK W)))) D (.dK (vK W))) := fun a u h => by
      by_cases ha : a = D
      · rw [ha] at h ⊢
        rw [upd_same, ← g1, h]
      · rw [upd_ne ha, upd_ne ha]
        exact h
    generalize upd H D (.frz od (.dK (vK W))) = Hf at hex hfL hfD hfp hfW eHf
    generalize upd (upd H L (.lst [.str (headS n)])) D (.frz od (.dK (vK W))) = Hx at hex hxL ⊢
    refine ⟨_, rfl, p, AA.World, dx, _, _, rfl, hex _ _ hfp, T.c_World, T.a_World_partings, wf_part, D, od, vK W, rfl, hex _ _ hfD, ?_⟩
    have hvl : (vK W).length = W.length := by
      unfold vK
      rw [List.length_map]
    have hWf : W.length = f.length := by
      rw [← g2]
      unfold vW
      rw [List.length_map]
    refine for_it (walk_items (kvs := vK W)) (fun i σ H' => ∃ y2 y3 y4, σ = [some (.ref p), some (.ref L), y2, y3, y4, none] ∧ Ex Hf H' ∧ H' L = some (.lst ((headS n :: (f.take i).map fun e => rowS e.1 e.2).map V.str))) ⟨none, none, none, rfl, hex, hxL⟩ (fun i σ H' _ hp => ?_) (fun i v σ H1 H2 hi hp hy => ?_) (fun σ H' hp => ?_)
    · obtain ⟨_, _, _, _, e, _⟩ := hp
      exact e _ _ hfD
    · obtain ⟨y2, y3, y4, rfl, x1, hL1⟩ := hp
      obtain ⟨T1, u1, u2, rfl, hT, rfl, k1, k2⟩ := hy
      rw [hvl] at hi
      obtain ⟨e, he⟩ : ∃ e, W[i]? = some e := ⟨_, List.getElem?_eq_getElem hi⟩
      have hem := List.mem_of_getElem? he
      have hkv : (vK W)[i]? = some (.inr e.1, .ref e.2.1) := by
        unfold vK
        rw [List.getElem?_map, he]
        rfl
      dsimp only at k1 k2
      rw [hkv] at k1 k2
      have k1 : V.str e.1 = u1 := Option.some.inj k1
      have k2 : V.ref e.2.1 = u2 := Option.some.inj k2
      subst k1
      subst k2
      have hfe : f[i]? = some (e.1, e.2.2) := by
        rw [← g2]
        unfold vW
        rw [List.getElem?_map, he]
        rfl
      obtain ⟨ht1000, hP⟩ := hf.2.2 _ (List.mem_of_getElem? hfe)
      have ht1000 : e.1.length ≤ 1000 := ht1000
      have hP : IsP n e.2.2 := hP
      refine ⟨T1, _, rfl, st_of upd_same, rfl, _, _, rfl, _, _, rfl, rfl, ?_⟩
      have x2 := Ex.new (o := .tup [V.str e.1, .ref e.2.1]) hT
      have x12 := x1.trans x2
      have hL2 := x2 _ _ hL1
      have hrow := x12 _ _ (hfW e hem).1
      generalize upd H1 T1 (.tup [V.str e.1, .ref e.2.1]) = H3 at x12 hL2 hrow
      have hil := items_len hn hP
      have htake : (f.take (i + 1)).map (fun e => rowS e.1 e.2) = (f.take i).map (fun e => rowS e.1 e.2) ++ [rowS e.1 e.2.2] := by
        rw [List.take_add_one, hfe, List.map_append]
        rfl
      refine ⟨⟨_, rfl⟩, _, rfl, e.2.1, rfl, ⟨_, st_of hrow⟩, fun B hB => lc_it (walk_tup (xs := nvs e.2.2)) (fun j H' => H3 B = none ∧ Ex H3 H' ∧ H' B = some (.lst ((e.2.2.take j).map fun x => V.str (natS x)))) ⟨hB, Ex.new hB, upd_same⟩ (fun j H' _ hp => st_of (hp.2.1 _ _ hrow)) (fun j v H5 H6 hj hp hy => ?_) (fun H' hp => ?_)⟩
      · obtain ⟨rfl, hv⟩ := hy
        obtain ⟨hB1, xb, hb⟩ := hp
        rw [nvs_len] at hj
        have hxj : e.2.2[j]? = some e.2.2[j] := List.getElem?_eq_getElem hj
        rw [nvs_get hxj] at hv
        obtain rfl := Option.some.inj hv
        have hj2 : j < n := by rw [← hP.len]; exact hj
        have lo := hP.lo (j + 1) (by omega) (by omega)
        have e5 := itm_get (p := e.2.2) (x := j + 1) (by omega) (by omega)
        rw [Nat.add_sub_cancel, hxj] at e5
        have e5 := Option.some.inj e5
        refine ⟨rfl, _, rfl, _, rfl, natS_log (by rw [e5]; omega), _, hb, ?_, hB1, xb.mut hB1, ?_⟩
        · rw [List.length_map, List.length_take]
          exact sz_lt (by omega)
        · rw [upd_same, List.take_add_one, hxj, List.map_append]
          rfl
      · obtain ⟨hB1, xb, hb⟩ := hp
        rw [nvs_len, List.take_length] at hb
        have hL4 := xb _ _ hL2
        refine ⟨_, B, e.2.2.map natS, rfl, rfl, .inl (sq_of (by rw [hb, List.map_map]; rfl)), ?_, ?_⟩
        · have := sumB hil.1
          rw [e3, Nat.mul_one]
          rw [List.length_map] at this ⊢
          rw [hP.len] at this ⊢
          omega
        have h1 := hil.2
        generalize hit : Txt.join (Str.ofString " ") (e.2.2.map natS) = items at h1 ⊢
        have hrs : rowS e.1 e.2.2 = e.1 ++ Str.ofString " " ++ items ++ Str.ofString "\n" := by
          unfold rowS
          rw [hit]
        have r1 : (Str.empty ++ e.1 ++ Str.ofString " " ++ items ++ Str.ofString "\n") = (e.1 ++ Str.ofString " " ++ items ++ Str.ofString "\n") := by rw [empty_app]
        refine ⟨_, rfl, .inl ⟨rfl, _, sq_of hL4⟩, _, rfl, .inl ⟨e.1, rfl, by omega, e.1, rfl, ?_, Str.ofString " ", rfl, ?_, _, rfl, .inl ⟨items, rfl, by omega, items, rfl, ?_, Str.ofString "\n", rfl, ?_, ?_⟩⟩⟩
        · rw [empty_app]
          omega
        · rw [empty_app, Str.length_append, e3]
          omega
        · rw [empty_app, Str.length_append, Str.length_append, e3]
          omega
        · rw [empty_app, Str.length_append, Str.length_append, Str.length_append, e3, e2]
          omega
        rw [r1]
        refine ⟨L, _, _, rfl, rfl, hL4, ?_, _, _, _, rfl, (x12.trans xb).mut hfL, ?_⟩
        · rw [List.length_map, List.length_cons, List.length_map, List.length_take]
          have := hf.2.1
          exact sz_lt (by omega)
        · rw [upd_same, htake, hrs, List.map_cons, List.map_cons, List.map_append]
          rfl
    · obtain ⟨y2, y3, y4, rfl, x1, hL1⟩ := hp
      rw [hvl, hWf, List.take_length] at hL1
      have hz : upd H' D (.dK (vK W)) L = some (.lst ((headS n :: f.map fun e => rowS e.1 e.2).map V.str)) := (upd_ne fun z => hLD z.symm).trans hL1
      refine ⟨x1 _ _ hfD, ⟨_, rfl⟩, _, rfl, Str.ofString "", L, headS n :: f.map fun e => rowS e.1 e.2, rfl, rfl, ?_⟩
      refine ⟨.inl (sq_of hz), ?_, ?_⟩
      · have s1 := sumB (rows_len hf)
        have s2 := head_len hn
        have e0 : (Str.ofString "").length = 0 := by decide +kernel
        have s3 := Nat.mul_le_mul_right 25000 hf.2.1
        rw [List.length_map] at s1
        rw [e0, Nat.mul_zero, List.map_cons, List.sum_cons]
        omega
      · rw [chap_join]
        exact q _ (eHf.trans (ex_both x1))
theorem ok_World___repr (T : Txt K mg AA) : PrM P w K mg base AA.World "__repr__" p_World___repr 1 (spReprW AA.World) := by
  refine prm_mk T.t_World___repr sc_World___repr (fun vs H Q E h => ?_) (fun f cdv A outer s H vs Q E hr h => ?_)
  · obtain ⟨v, n, f, rfl, _⟩ := h
    rfl
  · obtain ⟨v, n, f, rfl, hn, ⟨p, dx, D, rfl, hp, hV⟩, q⟩ := h
    refine ⟨_, (pss_one (ps_ret (pe_joined (PJ.cons pe_str (PJ.cons (pe_fmt (pe_fldK (K := K) rfl (pv 0) rfl)) (PJ.cons pe_str PJ.nil)))))), ?_⟩
    have e1 : (Str.ofString "World(").length = 6 := by decide +kernel
    have e2 : (Str.ofString " cases)").length = 7 := by decide +kernel
    have hl := natS_len hn
    have big : 16777216 ≤ sizeLine := by rw [sizeLine_eq]; decide
    refine ⟨_, rfl, ?_, _, rfl, p, AA.World, dx, _, _, rfl, hp, T.c_World, T.a_World_many, wf_many, .inr ⟨n, rfl, natS_log hn, natS n, rfl, ?_, Str.ofString " cases)", rfl, ?_, ?_⟩⟩
    · rw [empty_app, e1]
      omega
    · rw [empty_app, Str.length_append, e1]
      omega
    · rw [empty_app, Str.length_append, Str.length_append, e1, e2]
      omega
    rw [empty_app]
    exact q
theorem ok_World___str (T : Txt K mg AA) : PrM P w K mg base AA.World "__str__" p_World___str 2 (spTextW AA.World) := by
  refine prm_mk T.t_World___str sc_World___str (fun vs H Q E h => ?_) (fun f cdv A outer s H vs Q E hr h => ?_)
  · obtain ⟨v, n, f, rfl, _⟩ := h
    rfl
  · obtain ⟨v, n, f, rfl, hf, ⟨p, dx, D, rfl, hp, hV⟩, q⟩ := h
    refine ⟨_, (pss_one (ps_ret (pe_callTy SkE.call_str_str (by rfl) T.n_str PyProof.Rows.boot_str (pa_cons (pmeth0 T.c_World (ok_World_text T) hr (pv 0)) pa_nil)))), ?_⟩
    refine ⟨_, rfl, p, dx, _, rfl, hp, wf_no (by decide +kernel) (by decide +kernel), .ref p, n, f, rfl, hf, ⟨p, dx, D, rfl, hp, hV⟩, fun H1 e1 => ?_⟩
    exact ⟨_, rfl, q H1 e1⟩
end
end Eyes

set_option Elab.async false
set_option linter.all false
set_option maxRecDepth 100000
set_option maxHeartbeats 4000000
namespace Eyes
open PySem PySem.Spec PyProof.Rows L2 Evl TL
def joinN (n : Nat) (p q : List Nat) : List Nat := mrgs p (numd n q)
/-! ### the lattice -/
def Le (n : Nat) (p q : List Nat) : Prop := ∀ x y, 1 ≤ x → x ≤ n → 1 ≤ y → y ≤ n → ali p x y → ali q x y
theorem Le.refl {n : Nat} {p : List Nat} : Le n p p := fun _ _ _ _ _ _ h => h
theorem Le.trans {n : Nat} {p q r : List Nat} (h : Le n p q) (g : Le n q r) : Le n p r := fun x y h1 h2 h3 h4 a => g x y h1 h2 h3 h4 (h x y h1 h2 h3 h4 a)
theorem Le.anti {n : Nat} {p q : List Nat} (hp : IsP n p) (hq : IsP n q) (h : Le n p q) (g : Le n q p) : p = q := isP_ext hp hq fun x y h1 h2 h3 h4 => ⟨h x y h1 h2 h3 h4, g x y h1 h2 h3 h4⟩
theorem join_isP {n : Nat} {p q : List Nat} (hp : IsP n p) (hq : IsP n q) : IsP n (joinN n p q) := isP_mrgs hp (numd_in hq)
theorem le_join_l {n : Nat} {p q : List Nat} (hp : IsP n p) (hq : IsP n q) : Le n p (joinN n p q) := fun x y h1 h2 h3 h4 a => mrgs_keeps hp (numd_in hq) ⟨h1, h2⟩ ⟨h3, h4⟩ a
theorem le_join_r {n : Nat} {p q : List Nat} (hp : IsP n p) (hq : IsP n q) : Le n q (joinN n p q) := fun x y h1 h2 h3 h4 a => by
  have e1 : ali (joinN n p q) x (itm q x) := mrgs_joins hp (numd_in hq) (mem_numd h1 h2)
  have e2 : ali (joinN n p q) y (itm q y) := mrgs_joins hp (numd_in hq) (mem_numd h3 h4)
  have a : itm q x = itm q y := a
  unfold ali at e1 e2 ⊢
  rw [e1, e2, a]
theorem join_le {n : Nat} {p q r : List Nat} (hp : IsP n p) (hq : IsP n q) (h : Le n p r) (g : Le n q r) : Le n (joinN n p q) r := fun x y h1 h2 h3 h4 a =>
  mrgs_least (f := itm r) hp (numd_in hq) h (fun xy hxy => by
    obtain ⟨g1, g2, g3⟩ := numd_mem hxy
    have lo := hq.lo xy.1 g1 g2
    rw [g3]
    exact g xy.1 (itm q xy.1) g1 g2 lo.1 (by omega) (hq.rt xy.1 g1 g2).symm) ⟨h1, h2⟩ ⟨h3, h4⟩ a
section
variable {n : Nat} {p q r : List Nat}
end
end Eyes

set_option Elab.async false
set_option linter.all false
set_option maxRecDepth 100000
set_option maxHeartbeats 4000000
/-! Worlds: the parting of a circle, alike, tells. -/
namespace Eyes
open PySem PySem.Spec PyProof.Rows L2 Evl TL
def spParting (CC CW : Addr) (m : Nat) : Sp := fun vs H Q _ => ∃ (v x : V) (n : Nat) (f : Vw) (c : Ci), vs = [v, x] ∧ 1 ≤ n ∧ n ≤ 4096 ∧ WorldAt CW H v n f ∧ CiAt CC H x c ∧ c.depth < m ∧ c.fine ∧ c.norm ∧ ∀ r H', Ex H H' → H' r = some (.tup (nvs (viewC n f c))) → Q (.ref r) H'
def spCheckCases : Sp := fun vs H Q _ => ∃ (a : Addr) (n : Nat) (ys : List Nat), vs = [.int (n : Int), .ref a] ∧ H a = some (.tup (nvs ys)) ∧ (∀ y ∈ ys, 1 ≤ y ∧ y ≤ n) ∧ Q .non H
def spAlike (CC CW : Addr) : Sp := fun vs H Q _ => ∃ (v x : V) (n : Nat) (f : Vw) (c : Ci) (a b : Nat), vs = [v, x, .int (a : Int), .int (b : Int)] ∧ 1 ≤ n ∧ n ≤ 4096 ∧ WorldAt CW H v n f ∧ CiAt CC H x c ∧ c.depth < 25 ∧ c.fine ∧ c.norm ∧ (1 ≤ a ∧ a ≤ n) ∧ (1 ≤ b ∧ b ≤ n) ∧ ∀ H', Ex H H' → Q (.bl (decide (itm (viewC n f c) a = itm (viewC n f c) b))) H'
def spTells (CC CW : Addr) : Sp := fun vs H Q _ => ∃ (v x y : V) (n : Nat) (f : Vw) (c d : Ci), vs = [v, x, y] ∧ 1 ≤ n ∧ n ≤ 4096 ∧ WorldAt CW H v n f ∧ CiAt CC H x c ∧ c.depth < 25 ∧ c.fine ∧ c.norm ∧ CiAt CC H y d ∧ d.depth < 25 ∧ d.fine ∧ d.norm ∧ ∀ H', Ex H H' → Q (.bl (inn (viewC n f c) (viewC n f d))) H'
section
variable {P : Program} {w : World} {K : PySem.W.Frag} {mg : Str → Option Value} {base : Heap} {AA : Adr}
theorem ok_check_cases (T : Txt K mg AA) : Pr P w K mg base "check_cases" s_check_cases p_check_cases 2 spCheckCases := by
  refine pr_mk T.f_check_cases sc_check_cases (fun vs H Q E h => ?_) (fun f cdv A outer s H vs Q E hr h => ?_)
  · obtain ⟨a, n, ys, rfl, _⟩ := h
    rfl
  · obtain ⟨a, n, ys, rfl, ha, hys, q⟩ := h
    refine ⟨_, (pss_one (ps_for PassesOwn.never rfl (pi_tup (pv 1)) (pg_name (i := 2) sc_check_cases.nd rfl (.inl rfl))
      (pss_one (ps_if (pt_not (pt_val (pcall (ok_is_number T) hr (pa_cons (pv 2) (pa_cons pe_int (pa_cons (pv 0) pa_nil))))))
      (pss_one ps_never)
      pss_nil)))), ?_⟩
    refine ⟨_, rfl, a, rfl, ⟨_, st_of ha⟩, for_tup (xs := nvs ys) (fun i σ H' => (∃ y2, σ = [some (.int (n : Int)), some (.ref a), y2]) ∧ H' = H) ⟨⟨none, rfl⟩, rfl⟩ (fun i σ H' _ hp => ?_) (fun i v σ H' hv hp => ?_) (fun σ H' hp => ?_)⟩
    · rw [hp.2]
      exact st_of ha
    · obtain ⟨⟨y2, rfl⟩, rfl⟩ := hp
      unfold nvs at hv
      rw [List.getElem?_map] at hv
      obtain ⟨x, hx, rfl⟩ := Option.map_eq_some_iff.mp hv
      have hb := hys x (List.mem_of_getElem? hx)
      refine ⟨_, rfl, _, rfl, .int (x : Nat), .int (x : Nat), 1, n, rfl, .int _, ⟨_, rfl, ?_⟩⟩
      rw [num_in hb.1 hb.2]
      exact iteF ⟨⟨_, rfl⟩, rfl⟩
    · obtain ⟨_, rfl⟩ := hp
      exact q
end
end Eyes

set_option Elab.async false
set_option linter.all false
set_option maxRecDepth 100000
set_option maxHeartbeats 4000000
namespace Eyes
open PySem PySem.Spec PyProof.Rows L2 Evl TL
def Row (H : Hp) (n : Nat) (v : V) (p : List Nat) : Prop := ∃ a, v = .ref a ∧ H a = some (.tup (nvs p)) ∧ IsP n p
theorem Row.mono {H H' : Hp} {n : Nat} {v : V} {p : List Nat} (h : Row H n v p) (e : Ex H H') : Row H' n v p := by
  obtain ⟨a, h1, h2, h3⟩ := h
  exact ⟨a, h1, e _ _ h2, h3⟩
inductive Sms (C : Addr) (H : Hp) (n : Nat) : List V → List V → Prop
  | nil : Sms C H n [] []
  | cons {x y : V} {xs ys : List V} : Sm C H n x y → Sms C H n xs ys → Sms C H n (x :: xs) (y :: ys)
theorem Sms.len {C : Addr} {H : Hp} {n : Nat} {xs ys : List V} (h : Sms C H n xs ys) : xs.length = ys.length := by
  induction h with
  | nil => rfl
  | cons _ _ ih =>
    rw [List.length_cons, List.length_cons, ih]
theorem Sms.get {C : Addr} {H : Hp} {n : Nat} {xs ys : List V} (h : Sms C H n xs ys) : ∀ (i : Nat) (u v : V), xs[i]? = some u → ys[i]? = some v → Sm C H n u v := by
  induction h with
  | nil =>
    intro i u v e1 _
    cases e1
  | cons h1 _ ih =>
    intro i u v e1 e2
    match i, e1, e2 with
    | 0, e1, e2 =>
      cases e1
      cases e2
      exact h1
    | i + 1, e1, e2 => exact ih i u v e1 e2
theorem Sms.lst {C : Addr} {H : Hp} {n : Nat} {a b : Addr} {xs ys : List V} (h : Sms C H n xs ys) (ha : H a = some (.lst xs)) (hb : H b = some (.lst ys)) (hl : xs.length ≤ 90000) : Sm C H (n + 1) (.ref a) (.ref b) := .lst ha hb h.len hl h.get
theorem Sms.tup {C : Addr} {H : Hp} {n : Nat} {a b : Addr} {xs ys : List V} (h : Sms C H n xs ys) (ha : H a = some (.tup xs)) (hb : H b = some (.tup ys)) (hl : xs.length ≤ 90000) : Sm C H (n + 1) (.ref a) (.ref b) := .tup ha hb h.len hl h.get
theorem Sm.bl {C : Addr} {H : Hp} {n : Nat} {b c : Bool} (e : b = c) : Sm C H (n + 1) (.bl b) (.bl c) := e ▸ .sc (.inr (.inl ⟨_, rfl⟩))
theorem Sm.int' {C : Addr} {H : Hp} {n : Nat} {b : Int} : Sm C H (n + 1) (.int b) (.int b) := .sc (.inr (.inr (.inl ⟨_, rfl⟩)))
theorem Sm.str' {C : Addr} {H : Hp} {n : Nat} {b : Str} : Sm C H (n + 1) (.str b) (.str b) := .sc (.inr (.inr (.inr ⟨_, rfl⟩)))
end Eyes

set_option Elab.async false
set_option linter.all false
set_option maxRecDepth 100000
/-! Joining in steps: what is joined may be joined again. -/
namespace Eyes
open PySem PySem.Spec PyProof.Rows L2 Evl TL
theorem dd_mem {x : Ci} : ∀ {a cs : List Ci}, (∀ c ∈ a, c.ok) → (∀ c ∈ cs, c.ok) → x ∈ a ∨ x ∈ cs → x ∈ dd a cs
  | a, [], _, _, h => h.elim id fun z => by cases z
  | a, c :: r, h1, h2, h => by
    have hc := h2 c List.mem_cons_self
    have hr : ∀ d ∈ r, d.ok := fun d hd => h2 d (List.mem_cons_of_mem _ hd)
    unfold dd
    by_cases g : a.any (fun d => decide (d.str = c.str)) = true
    · rw [if_pos g]
      refine dd_mem h1 hr ?_
      rcases h with h | h
      · exact .inl h
      · rcases List.mem_cons.mp h with rfl | h
        · exact .inl ((any_str h1 hc).mp g)
        · exact .inr h
    · rw [if_neg g]
      refine dd_mem (fun d hd => ?_) hr ?_
      · rcases List.mem_append.mp hd with hd | hd
        · exact h1 d hd
        · rw [List.mem_singleton.mp hd]
          exact hc
      · rcases h with h | h
        · exact .inl (List.mem_append_left _ h)
        · rcases List.mem_cons.mp h with rfl | h
          · exact .inl (List.mem_append_right _ List.mem_cons_self)
          · exact .inr h
theorem flat_mem {k : Bool} {d : Ci} : ∀ {cs : List Ci}, d ∈ flat k cs ↔ ∃ c ∈ cs, d ∈ (if c.isK k = true then c.parts else [c])
  | [] => ⟨fun h => (by cases h), fun h => by
    obtain ⟨c, h, _⟩ := h
    cases h⟩
  | c :: r => by
    show d ∈ _ ++ flat k r ↔ _
    rw [List.mem_append, flat_mem (cs := r)]
    constructor
    · rintro (h | ⟨e, h1, h2⟩)
      · exact ⟨c, List.mem_cons_self, h⟩
      · exact ⟨e, List.mem_cons_of_mem _ h1, h2⟩
    · rintro ⟨e, h1, h2⟩
      rcases List.mem_cons.mp h1 with rfl | h1
      · exact .inl h2
      · exact .inr ⟨e, h1, h2⟩
section
variable {k : Bool}
theorem pts_mem {cs : List Ci} (h : ∀ c ∈ cs, c.norm) {d : Ci} : d ∈ pts k cs ↔ d ∈ flat k cs := by
  have hf := flat_ok (k := k) fun c hc => norm_of (h c hc)
  constructor
  · intro g
    rcases dd_sub g with z | z
    · cases z
    · exact z
  · intro g
    exact dd_mem (fun c hc => by cases hc) hf (.inr g)
theorem pts_nodup {cs : List Ci} (h : ∀ c ∈ cs, c.norm) : (pts k cs).Nodup := dd_is_nodup (fun c hc => by cases hc) (flat_ok (k := k) fun c hc => norm_of (h c hc)) List.nodup_nil
theorem mkC_sz (cs : List Ci) : (mkC k cs).size = sizes (pts k cs) := by
  by_cases h1 : (pts k cs).length = 1
  · obtain ⟨c, hc⟩ := List.length_eq_one_iff.mp h1
    rw [mkC_one hc, hc]
    exact (Nat.add_zero _).symm
  · rw [mkC_more h1]
    rfl
open Classical in
theorem sizes_erase {x : Ci} : ∀ {b : List Ci}, x ∈ b → sizes (b.erase x) + x.size = sizes b
  | y :: r, h => by
    by_cases e : y = x
    · subst e
      rw [List.erase_cons_head]
      exact Nat.add_comm _ _
    · rw [List.erase_cons_tail (by simpa using e)]
      have h2 : x ∈ r := (List.mem_cons.mp h).resolve_left fun z => e z.symm
      have := sizes_erase h2
      show y.size + sizes (r.erase x) + x.size = y.size + sizes r
      omega
open Classical in
theorem sub_sizes : ∀ {a b : List Ci}, a.Nodup → (∀ y ∈ a, y ∈ b) → sizes a ≤ sizes b
  | [], b, _, _ => Nat.zero_le _
  | x :: r, b, n, h => by
    obtain ⟨nx, nr⟩ := List.nodup_cons.mp n
    have hx : x ∈ b := h x List.mem_cons_self
    have h1 := sub_sizes (a := r) (b := b.erase x) nr fun y hy => (List.mem_erase_of_ne (by intro e; exact nx (e ▸ hy))).mpr (h y (List.mem_cons_of_mem _ hy))
    have h2 := sizes_erase hx
    show x.size + sizes r ≤ sizes b
    omega
open Classical in
end
end Eyes

set_option Elab.async false
set_option linter.all false
set_option maxRecDepth 100000
set_option maxHeartbeats 4000000
/-! The mathematics of worlds: what is not counted does not matter; a made circle sees what its parts see. -/
namespace Eyes
open PySem PySem.Spec PyProof.Rows L2 Evl TL
theorem seen1_self {n : Nat} {f : Vw} {t : Str} : (seen1 n f t).map (·.2) = (wGet f t).bind fun p => if p = alone n then none else some p := by
  unfold seen1
  cases wGet f t with
  | none => rfl
  | some p =>
    show Option.map _ (if p = alone n then none else some (t, p)) = if p = alone n then none else some p
    split <;> rfl
theorem seen1_name {n : Nat} {f : Vw} {y : Str} {e : Str × List Nat} (h : seen1 n f y = some e) : e.1 = y := by
  unfold seen1 at h
  cases hg : wGet f y with
  | none =>
    rw [hg] at h
    cases h
  | some p =>
    rw [hg] at h
    have h : (if p = alone n then none else some (y, p)) = some e := h
    split at h
    · cases h
    · cases h
      rfl
theorem seen_get {n : Nat} {f : Vw} {t : Str} : ∀ ys : List Str, wGet (seenV n f ys) t = if t ∈ ys then (wGet f t).bind (fun p => if p = alone n then none else some p) else none
  | [] => rfl
  | y :: ys => by
    have ih := seen_get (n := n) (f := f) (t := t) ys
    unfold seenV at ih ⊢
    by_cases hy : y = t
    · subst hy
      rw [if_pos List.mem_cons_self, ← seen1_self]
      cases hs : seen1 n f y with
      | none =>
        rw [List.filterMap_cons_none hs, ih, ← seen1_self, hs]
        split <;> rfl
      | some e =>
        rw [List.filterMap_cons_some hs]
        unfold wGet
        rw [List.find?_cons, decide_eq_true (seen1_name hs)]
    · have hm : (t ∈ y :: ys) ↔ t ∈ ys := ⟨fun h => (List.mem_cons.mp h).resolve_left fun z => hy z.symm, fun h => List.mem_cons_of_mem _ h⟩
      cases hs : seen1 n f y with
      | none =>
        rw [List.filterMap_cons_none hs, ih]
        simp only [hm]
      | some e =>
        rw [List.filterMap_cons_some hs]
        have : wGet (e :: ys.filterMap (seen1 n f)) t = wGet (ys.filterMap (seen1 n f)) t := by
          unfold wGet
          rw [List.find?_cons, decide_eq_false (by rw [seen1_name hs]; exact hy)]
        rw [this, ih]
        simp only [hm]
theorem wGet_none {f : Vw} {t : Str} (h : t ∉ f.map (·.1)) : wGet f t = none := by
  unfold wGet
  rw [List.find?_eq_none.mpr]
  · rfl
  · intro x hx z
    exact h (List.mem_map.mpr ⟨x, hx, of_decide_eq_true z⟩)
theorem seen_same {n : Nat} {f : Vw} {ys : List Str} (h : ys.Perm (f.map (·.1))) (t : Str) : (wGet (seenV n f ys) t).getD (alone n) = (wGet f t).getD (alone n) := by
  rw [seen_get]
  by_cases ht : t ∈ ys
  · rw [if_pos ht]
    cases wGet f t with
    | none => rfl
    | some p =>
      show (if p = alone n then none else some p).getD (alone n) = p
      split
      · rename_i e
        rw [e]
        rfl
      · rfl
  · rw [if_neg ht, wGet_none fun z => ht (h.mem_iff.mpr z)]
mutual
theorem viewC_congr {n : Nat} {f g : Vw} (h : ∀ t, (wGet f t).getD (alone n) = (wGet g t).getD (alone n)) : ∀ c : Ci, viewC n f c = viewC n g c
  | .eye t => h t
  | .node k ps => by
    show foldP n k (viewL n f ps) = foldP n k (viewL n g ps)
    rw [viewL_congr h ps]
theorem viewL_congr {n : Nat} {f g : Vw} (h : ∀ t, (wGet f t).getD (alone n) = (wGet g t).getD (alone n)) : ∀ ps : List Ci, viewL n f ps = viewL n g ps
  | [] => rfl
  | c :: r => by
    show viewC n f c :: viewL n f r = viewC n g c :: viewL n g r
    rw [viewC_congr h c, viewL_congr h r]
end
def Bnd (n : Nat) (k : Bool) (q r : List Nat) : Prop := if k = true then Le n r q else Le n q r
theorem Bnd.anti {n : Nat} {k : Bool} {p q : List Nat} (hp : IsP n p) (hq : IsP n q) (h : ∀ r, IsP n r → (Bnd n k p r ↔ Bnd n k q r)) : p = q := by
  have h1 := (h p hp).mp (by unfold Bnd; split <;> exact Le.refl)
  have h2 := (h q hq).mpr (by unfold Bnd; split <;> exact Le.refl)
  unfold Bnd at h1 h2
  cases k with
  | true => exact Le.anti hp hq (by simpa using h1) (by simpa using h2)
  | false => exact Le.anti hp hq (by simpa using h2) (by simpa using h1)
end Eyes

set_option Elab.async false
set_option linter.all false
set_option maxRecDepth 100000
set_option maxHeartbeats 4000000
/-! The law's chapter of a world. -/
namespace Eyes
open PySem PySem.Spec PyProof.Rows L2 Evl TL
theorem pi_tupQ {X : Cx} {K : PySem.W.Frag} (hK : X.K = K) {tg l : Expr} {tl : TE} (hl : PE X l tl) : PI X tg l (iTup K tl) := hK ▸ pi_tup hl
def tJoinK (K : PySem.W.Frag) (to te : TE) : TE := tM1 (fun x xs H Q => ∃ a p, ∃ ys : List Str, x = .str a ∧ xs = [.ref p] ∧ (SqL K H p (ys.map V.str) ∨ SqT K H p (ys.map V.str)) ∧
      (ys.map (·.length)).sum + ys.length * a.length ≤ 16777216 ∧ Q (.str (Txt.join a ys)) H) to te
theorem pe_joinK {X : Cx} {K : PySem.W.Frag} {o e : Expr} {to te : TE} {apos pos : Pos} (hK : X.K = K) (ho : PE X o to) (he : PE X e te) (hs : starEach [e] X.env = [(false, eval e X.env)] := by rfl) (hbase : attributeBase o "join" X.env (eval o X.env) = eval o X.env := by rfl) (hline : (apos.endLine == pos.line) = true := by rfl) :
    PE X (.Call (.Attribute o "join" apos) [e] [] pos) (tJoinK K to te) := hK ▸ pe_join ho he hs hbase hline
def scCh : Scope := { kind := ScopeKind.function, names := [(Str.ofString ".0", NameKind.local), (Str.ofString "_law_x", NameKind.local), (Str.ofString "_law_seen_here", NameKind.cell)], isGenerator := false, isCoroutine := false }
theorem seenV_few {n : Nat} {f : Vw} {ys : List Str} (hn : n ≤ 4096) (hl : f.length < 64) (hys : ys.Perm (f.map (·.1))) (hf : ∀ e ∈ f, e.1.length ≤ 1000) (hP : ∀ t, IsP n ((wGet f t).getD (alone n))) : fewV n (seenV n f ys) := by
  have hyl : ys.length = f.length := by
    have := hys.length_eq
    rw [List.length_map] at this
    exact this
  refine ⟨hn, ?_, fun e he => ?_⟩
  · have : (seenV n f ys).length ≤ ys.length := List.length_filterMap_le ..
    omega
  · unfold seenV at he
    obtain ⟨y, hy, hs⟩ := List.mem_filterMap.mp he
    have h1 := seen1_name hs
    have hym := hys.mem_iff.mp hy
    obtain ⟨x, hx, hxy⟩ := List.mem_map.mp hym
    refine ⟨by rw [h1, ← hxy]; exact hf x hx, ?_⟩
    unfold seen1 at hs
    have hp := hP y
    cases hg : wGet f y with
    | none =>
      rw [hg] at hs
      cases hs
    | some p =>
      rw [hg] at hs hp
      have hs : (if p = alone n then none else some (y, p)) = some e := hs
      split at hs
      · cases hs
      · cases hs
        exact hp
theorem seenV_nodup {n : Nat} {f : Vw} : ∀ {ys : List Str}, ys.Nodup → ((seenV n f ys).map (·.1)).Nodup
  | [], _ => List.nodup_nil
  | y :: ys, h => by
    rw [List.nodup_cons] at h
    have ih := seenV_nodup (n := n) (f := f) h.2
    unfold seenV at ih ⊢
    cases hs : seen1 n f y with
    | none =>
      rw [List.filterMap_cons_none hs]
      exact ih
    | some e =>
      rw [List.filterMap_cons_some hs, List.map_cons, List.nodup_cons]
      refine ⟨fun hm => ?_, ih⟩
      obtain ⟨x, hx, hxe⟩ := List.mem_map.mp hm
      obtain ⟨z, hz, hsz⟩ := List.mem_filterMap.mp hx
      have h1 := seen1_name hsz
      have h2 := seen1_name hs
      rw [← h2, ← hxe, h1] at h
      exact h.1 hz
def spChapter (K : PySem.W.Frag) : Sp := fun vs H Q _ => ∃ (n : Nat) (l : Addr) (f : Vw), vs = [.int (n : Int), .ref l] ∧ n ≤ 4096 ∧ VwAt H l n f ∧ f.length < 64 ∧ (f.map (·.1)).Nodup ∧ (∀ e ∈ f, e.1.length ≤ 1000) ∧
  ∀ H' ys, Ex H H' → ys.Perm (f.map (·.1)) → sortedS ys = true → Q (.str (chapS n (seenV n f ys))) H'
section
variable {P : Program} {w : World} {K : PySem.W.Frag} {mg : Str → Option Value} {base : Heap} {AA : Adr}
theorem ok_law_chapter (T : Txt K mg AA) : Pr P w K mg base "_law_chapter" s_law_chapter p_law_chapter 5 (spChapter K) := by
  refine pr_mk T.f_law_chapter sc_law_chapter (fun vs H Q E h => ?_) (fun f cdv A outer s H vs Q E hr h => ?_)
  · obtain ⟨n, l, f, rfl, _⟩ := h
    rfl
  · obtain ⟨n, l, f, rfl, hn, hV, hfl, hnd, hft, q⟩ := h
    refine ⟨_, (pss_cons (ps_set (i := 2) sc_law_chapter.nd rfl (.inr rfl) (pcall (ok_law_seen T) hr (pa_cons (pv 0) (pa_cons (pv 1) pa_nil))))
      (pss_one (ps_ret (pe_op op_add_str (pe_op op_add_str (pe_op op_add_str pe_str (pe_callTy call_str_int (by rfl) T.n_str PyProof.Rows.boot_str (pa_cons (pv 0) pa_nil))) pe_str) (pe_join pe_str (pe_lc (own := [("_law_x", 3)]) (g := gName 3) (tt := tYes) rfl sc_law_chapter.nd (pi_list (pe_callTy (call_list_dK rfl) (by rfl) T.n_list PyProof.Rows.boot_list (pa_cons (pv 2) pa_nil))) (blkOk_by (own := [("_law_x", 3)]) (N := n_law_chapter) (sc := defScope s_law_chapter) (by decide +kernel)) (fun _ _ _ _ _ => (pg_name (i := 3) sc_law_chapter.nd rfl (.inl rfl))) (fun _ _ _ _ _ => pts_nil) (fun _ _ _ _ _ => (pe_op op_add_str (pe_op op_add_str (pe_op op_add_str (pv 3) pe_str) (pe_joinK (K := K) rfl pe_str (pe_lc (own := [("_law_k", 4)]) (g := gName 4) (tt := tYes) rfl sc_law_chapter.nd (pi_tupQ (K := K) rfl (pe_dget (hu_of hr) (pv 2) (pv 3) (fun _ _ => rfl))) (blkOk_by (own := [("_law_k", 4)]) (N := n_law_chapter) (sc := scCh) (by decide +kernel)) (fun _ _ _ _ _ => (pg_name (i := 4) sc_law_chapter.nd rfl (.inl rfl))) (fun _ _ _ _ _ => pts_nil) (fun _ _ _ _ _ => (pe_callTy call_str_int (by rfl) T.n_str PyProof.Rows.boot_str (pa_cons (pv 4) pa_nil)))))) pe_str)))))))), ?_⟩
    refine ⟨_, rfl, _, rfl, n, l, f, rfl, hn, hV, hfl, hnd, fun D H1 ys e1 hD hys hso hV1 => ?_⟩
    have hf := seenV_few hn hfl hys hft hV.isP
    have q := fun H9 (e9 : Ex H1 H9) => q H9 ys (e1.trans e9) hys hso
    have hgn := seenV_nodup (n := n) (f := f) (hys.nodup_iff.mpr hnd)
    generalize seenV n f ys = g at hV1 hf q hgn
    obtain ⟨W, w1, w2, w3⟩ := hV1
    have e4 : (Str.ofString "cases ").length = 6 := by decide +kernel
    have e2 : (Str.ofString "\n").length = 1 := by decide +kernel
    have e3 : (Str.ofString " ").length = 1 := by decide +kernel
    have hl := natS_len hn
    have big : 16777216 ≤ sizeLine := by rw [sizeLine_eq]; decide
    have hWf : W.length = g.length := by
      rw [← w2]
      unfold vW
      rw [List.length_map]
    have hWn : (W.map (·.1)).Nodup := by
      rw [← w2] at hgn
      unfold vW at hgn
      rw [List.map_map] at hgn
      exact hgn
    refine ⟨_, rfl, n, rfl, natS_log hn, Str.ofString "cases ", natS n, rfl, rfl, ?_, Str.ofString "cases " ++ natS n, Str.ofString "\n", rfl, rfl, ?_, ⟨_, rfl⟩, _, rfl, D, vK W, rfl, w1, fun L hL => ?_⟩
    · rw [e4]
      omega
    · rw [Str.length_append, e4, e2]
      omega
    have hNL : ((vK W).map fun kv => kV kv.1) = (g.map (·.1)).map V.str := by
      rw [← w2]
      unfold vK vW
      rw [List.map_map, List.map_map, List.map_map]
      rfl
    rw [hNL]
    have x2 := Ex.new (o := .lst ((g.map (·.1)).map V.str)) hL
    have hL2 := upd_same (H := H1) (a := L) (o := HO.lst ((g.map (·.1)).map V.str))
    generalize upd H1 L (.lst ((g.map (·.1)).map V.str)) = H2 at x2 hL2
    refine ⟨L, rfl, ⟨_, sq_of hL2⟩, fun B hB => lc_it (walk_list (xs := (g.map (·.1)).map V.str)) (fun i H' => H2 B = none ∧ Ex H2 H' ∧ H' B = some (.lst (((g.take i).map fun e => rowS e.1 e.2).map V.str))) ⟨hB, Ex.new hB, upd_same⟩ (fun i H' _ hp => sq_of (hp.2.1 _ _ hL2)) (fun i v H3 H4 hi hp hy => ?_) (fun H' hp => ?_)⟩
    · obtain ⟨rfl, hv⟩ := hy
      obtain ⟨hB3, x3, h3⟩ := hp
      have hig : i < g.length := by
        rw [List.length_map, List.length_map] at hi
        exact hi
      have hiW : i < W.length := by omega
      obtain ⟨e, he⟩ : ∃ e, W[i]? = some e := ⟨_, List.getElem?_eq_getElem hiW⟩
      have hem := List.mem_of_getElem? he
      have hge : g[i]? = some (e.1, e.2.2) := by
        rw [← w2]
        unfold vW
        rw [List.getElem?_map, he]
        rfl
      rw [List.getElem?_map, List.getElem?_map, hge] at hv
      have hv : V.str e.1 = v := Option.some.inj hv
      subst hv
      obtain ⟨ht1000, hP⟩ := hf.2.2 _ (List.mem_of_getElem? hge)
      have ht1000 : e.1.length ≤ 1000 := ht1000
      have hP : IsP n e.2.2 := hP
      have hil := items_len hn hP
      have x23 := x2.trans x3
      have hrow := x23 _ _ (w3 e hem).1
      have hget : valV (vK W) (.inr e.1) = some (.ref e.2.1) := by
        rw [vK_get]
        cases hg : vGet W e.1 with
        | none => exact absurd rfl (vGet_none hg e hem)
        | some e2 =>
          have h1 : e2.1 = e.1 := vGet_name hg
          rw [nodup_inj hWn (List.mem_of_find?_eq_some hg) hem h1]
          rfl
      have htake : (g.take (i + 1)).map (fun e => rowS e.1 e.2) = (g.take i).map (fun e => rowS e.1 e.2) ++ [rowS e.1 e.2.2] := by
        rw [List.take_add_one, hge, List.map_append]
        rfl
      refine ⟨rfl, _, rfl, e.1, Str.ofString " ", rfl, rfl, ?_, ⟨_, rfl⟩, _, rfl, _, rfl, D, .ref e.2.1, rfl, by rw [← hget]; exact DGet.k (k := .inr e.1) (x23 _ _ w1), e.2.1, rfl, ⟨_, st_of hrow⟩, fun B2 hB2 => ?_⟩
      · rw [e3]
        omega
      refine lc_it (walk_tup (xs := nvs e.2.2)) (fun j H' => H4 B2 = none ∧ Ex H4 H' ∧ H' B2 = some (.lst ((e.2.2.take j).map fun x => V.str (natS x)))) ⟨hB2, Ex.new hB2, upd_same⟩ (fun j H' _ hp => st_of (hp.2.1 _ _ hrow)) (fun j v H5 H6 hj hp hy => ?_) (fun H' hp => ?_)
      · obtain ⟨rfl, hv⟩ := hy
        obtain ⟨hB1, xb, hb⟩ := hp
        rw [nvs_len] at hj
        have hxj : e.2.2[j]? = some e.2.2[j] := List.getElem?_eq_getElem hj
        rw [nvs_get hxj] at hv
        obtain rfl := Option.some.inj hv
        have hj2 : j < n := by rw [← hP.len]; exact hj
        have lo := hP.lo (j + 1) (by omega) (by omega)
        have e5 := itm_get (p := e.2.2) (x := j + 1) (by omega) (by omega)
        rw [Nat.add_sub_cancel, hxj] at e5
        have e5 := Option.some.inj e5
        refine ⟨rfl, _, rfl, _, rfl, natS_log (by rw [e5]; omega), _, hb, ?_, hB1, xb.mut hB1, ?_⟩
        · rw [List.length_map, List.length_take]
          exact sz_lt (by omega)
        · rw [upd_same, List.take_add_one, hxj, List.map_append]
          rfl
      · obtain ⟨hB1, xb, hb⟩ := hp
        rw [nvs_len, List.take_length] at hb
        have h34 := xb _ _ h3
        refine ⟨Str.ofString " ", B2, e.2.2.map natS, rfl, rfl, ?_⟩
        refine ⟨.inl (sq_of (by rw [hb, List.map_map]; rfl)), ?_, ?_⟩
        · have := sumB hil.1
          rw [e3, Nat.mul_one]
          rw [List.length_map] at this ⊢
          rw [hP.len] at this ⊢
          omega
        have h1 := hil.2
        generalize hit : Txt.join (Str.ofString " ") (e.2.2.map natS) = items at h1 ⊢
        have hrs : rowS e.1 e.2.2 = e.1 ++ Str.ofString " " ++ items ++ Str.ofString "\n" := by
          unfold rowS
          rw [hit]
        refine ⟨e.1 ++ Str.ofString " ", items, rfl, rfl, ?_, e.1 ++ Str.ofString " " ++ items, Str.ofString "\n", rfl, rfl, ?_, _, h34, ?_, hB3, (x3.trans xb).mut hB3, ?_⟩
        · rw [Str.length_append, e3]
          omega
        · rw [Str.length_append, Str.length_append, e3, e2]
          omega
        · rw [List.length_map, List.length_map, List.length_take]
          have := hf.2.1
          exact sz_lt (by omega)
        · rw [upd_same, htake, hrs, List.map_append]
          rfl
    · obtain ⟨hB3, x3, h3⟩ := hp
      have hgl : ((g.map (·.1)).map V.str).length = g.length := by rw [List.length_map, List.length_map]
      rw [hgl, List.take_length] at h3
      refine ⟨Str.ofString "", B, g.map fun e => rowS e.1 e.2, rfl, rfl, ?_⟩
      have s1 := sumB (rows_len hf)
      have s2 := join_len (S := Str.ofString "") (rows_len hf)
      have e0 : (Str.ofString "").length = 0 := by decide +kernel
      have s3 := Nat.mul_le_mul_right 25000 hf.2.1
      rw [List.length_map] at s1 s2
      rw [e0, Nat.add_zero] at s2
      have s4 := head_len hn
      unfold headS at s4
      refine ⟨.inl (sq_of h3), ?_, ?_⟩
      · rw [e0, Nat.mul_zero]
        omega
      have q := q H' (x2.trans x3)
      unfold chapS headS at q
      refine ⟨_, _, rfl, rfl, ?_, q⟩
      omega
end
end Eyes

set_option Elab.async false
set_option linter.all false
set_option maxRecDepth 100000
set_option maxHeartbeats 4000000
/-! A circle == a tuple. -/
namespace Eyes
open PySem PySem.Spec PyProof.Rows L2 Evl TL
def rEqOwnT (K : PySem.W.Frag) (C : Addr) (sp : Sp) : R2 := fun x y H Q => ∃ a dx fs b zs, x = .ref a ∧ H a = some (.ins C dx fs) ∧ y = .ref b ∧ H b = some (.tup zs) ∧ PySem.W.notFirst K C (.type "tuple") = true ∧ sp [.ref a, y] H Q (fun _ _ _ => False)
section
variable {X : Cx} {C : Addr} {j k : Nat} {ps : List Str} {sp : Sp}
end
def spEqT (C : Addr) : Sp := fun vs H Q _ => ∃ (x : V) (b : Addr) (c : Ci) (zs : List V), vs = [x, .ref b] ∧ CiAt C H x c ∧ H b = some (.tup zs) ∧ ∀ H', Ex H H' → Q (.bl false) H'
section
variable {P : Program} {w : World} {K : PySem.W.Frag} {mg : Str → Option Value} {base : Heap} {AA : Adr}
end
end Eyes

set_option Elab.async false
set_option linter.all false
set_option maxRecDepth 100000
set_option maxHeartbeats 4000000
/-! What a world tells of itself is as the law says. -/
namespace Eyes
open PySem PySem.Spec PyProof.Rows L2 Evl TL
inductive Sds (H : Hp) (n : Nat) : List V → List V → Prop
  | nil : Sds H n [] []
  | cons {x y : V} {xs ys : List V} : Sd H n x y → Sds H n xs ys → Sds H n (x :: xs) (y :: ys)
theorem Sds.len {H : Hp} {n : Nat} {xs ys : List V} (h : Sds H n xs ys) : xs.length = ys.length := by
  induction h with
  | nil => rfl
  | cons _ _ ih =>
    rw [List.length_cons, List.length_cons, ih]
theorem Sds.get {H : Hp} {n : Nat} {xs ys : List V} (h : Sds H n xs ys) : ∀ (i : Nat) (u v : V), xs[i]? = some u → ys[i]? = some v → Sd H n u v := by
  induction h with
  | nil =>
    intro i u v e1 _
    cases e1
  | cons h1 _ ih =>
    intro i u v e1 e2
    match i, e1, e2 with
    | 0, e1, e2 =>
      cases e1
      cases e2
      exact h1
    | i + 1, e1, e2 => exact ih i u v e1 e2
theorem Sds.lst {H : Hp} {n : Nat} {a b : Addr} {xs ys : List V} (h : Sds H n xs ys) (ha : H a = some (.lst xs)) (hb : H b = some (.lst ys)) (hl : xs.length ≤ 90000) : Sd H (n + 1) (.ref a) (.ref b) := .lst ha hb h.len hl h.get
theorem Sd.int' {H : Hp} {n : Nat} {i : Int} : Sd H (n + 1) (.int i) (.int i) := .sc (.inr (.inr (.inl ⟨_, rfl⟩)))
theorem Sd.str' {H : Hp} {n : Nat} {s : Str} : Sd H (n + 1) (.str s) (.str s) := .sc (.inr (.inr (.inr ⟨_, rfl⟩)))
theorem Sd.bl' {H : Hp} {n : Nat} {b c : Bool} (e : b = c) : Sd H (n + 1) (.bl b) (.bl c) := e ▸ .sc (.inr (.inl ⟨_, rfl⟩))
theorem Sd.row {H : Hp} {k n : Nat} {a b : Addr} {p : List Nat} (hn : n ≤ 4096) (hP : IsP n p) (ha : H a = some (.tup (nvs p))) (hb : H b = some (.tup (nvs p))) : Sd H (k + 2) (.ref a) (.ref b) :=
  .tup ha hb rfl (by rw [nvs_len, hP.len]; omega) fun i u v e1 e2 => by
    rw [e1] at e2
    cases e2
    unfold nvs at e1
    rw [List.getElem?_map] at e1
    obtain ⟨y, _, rfl⟩ := Option.map_eq_some_iff.mp e1
    exact .int'
theorem Sd.vw {H : Hp} {k n : Nat} {a b : Addr} {g : Vw} (hn : n ≤ 4096) (hl : g.length ≤ 1000) (hnd : (g.map (·.1)).Nodup) (ha : VwAt H a n g) (hb : VwAt H b n g) : Sd H (k + 3) (.ref a) (.ref b) := by
  obtain ⟨W, a1, a2, a3⟩ := ha
  obtain ⟨U, b1, b2, b3⟩ := hb
  have keys : ∀ {W : List VRow}, vW W = g → (vK W).map (·.1) = (g.map (·.1)).map Sum.inr := fun {W} h => by
    rw [← h]
    unfold vK vW
    rw [List.map_map, List.map_map, List.map_map]
    rfl
  have hU : U.length = g.length := by
    rw [← b2]
    unfold vW
    rw [List.length_map]
  refine .dct a1 b1 ((keys a2).trans (keys b2).symm) ?_ (by unfold vK; rw [List.length_map, hU]; exact hl) fun i kk u v e1 e2 => ?_
  · rw [keys b2]
    exact List.Pairwise.map _ (fun a b h z => h (Sum.inr.inj z)) hnd
  · unfold vK at e1 e2
    rw [List.getElem?_map] at e1 e2
    obtain ⟨x, hx, hxe⟩ := Option.map_eq_some_iff.mp e1
    obtain ⟨y, hy, hye⟩ := Option.map_eq_some_iff.mp e2
    obtain ⟨rfl, rfl⟩ := Prod.mk.inj hxe
    obtain ⟨_, rfl⟩ := Prod.mk.inj hye
    have g1 : g[i]? = some (x.1, x.2.2) := by
      rw [← a2]
      unfold vW
      rw [List.getElem?_map, hx]
      rfl
    have g2 : g[i]? = some (y.1, y.2.2) := by
      rw [← b2]
      unfold vW
      rw [List.getElem?_map, hy]
      rfl
    rw [g1] at g2
    have e := (Prod.mk.inj (Option.some.inj g2)).2
    have hx3 := a3 x (List.mem_of_getElem? hx)
    have hy3 := b3 y (List.mem_of_getElem? hy)
    rw [← e] at hy3
    exact .row hn hx3.2 hx3.1 hy3.1
structure VwOk (n : Nat) (f : Vw) (ys : List Str) : Prop where
  n1 : 1 ≤ n
  n2 : n ≤ 2400
  few : f.length < 64
  nd : (f.map (·.1)).Nodup
  nm : ∀ e ∈ f, e.1.length ≤ 1000
  isP : ∀ t, IsP n ((wGet f t).getD (alone n))
  pm : ys.Perm (f.map (·.1))
  so : sortedS ys = true
theorem VwOk.fewV {n : Nat} {f : Vw} {ys : List Str} (h : VwOk n f ys) : fewV n (seenV n f ys) := seenV_few (by have := h.n2; omega) h.few h.pm h.nm h.isP
theorem VwOk.one {n : Nat} {f : Vw} {ys zs : List Str} (h : VwOk n f ys) (p : zs.Perm (f.map (·.1))) (s : sortedS zs = true) : zs = ys := sortedS_one (p.trans h.pm.symm) s h.so
def spWorldSo (CW : Addr) : Sp := fun vs H Q _ => ∃ (v : V) (l : Addr) (n : Nat) (f : Vw) (ys : List Str), vs = [v, .int (n : Int), .ref l] ∧ WorldAt CW H v n (seenV n f ys) ∧ VwAt H l n f ∧ VwOk n f ys ∧ ∀ H', Ex H H' → Q (.bl true) H'
section
variable {P : Program} {w : World} {K : PySem.W.Frag} {mg : Str → Option Value} {base : Heap} {AA : Adr}
theorem ok_law_world_so (T : Txt K mg AA) : Pr P w K mg base "_law_world_so" s_law_world_so p_law_world_so 14 (spWorldSo AA.World) := by
  refine pr_mk T.f_law_world_so sc_law_world_so (fun vs H Q E h => ?_) (fun f cdv A outer s H vs Q E hr h => ?_)
  · obtain ⟨v, l, n, f, ys, rfl, _⟩ := h
    rfl
  · obtain ⟨v, l, n, f, ys, rfl, ⟨p, dx, D0, rfl, hp, hV0⟩, hV, ok, q⟩ := h
    refine ⟨_, (pss_cons (ps_set (i := 3) sc_law_world_so.nd rfl (.inl rfl) (pcall (ok_law_seen T) hr (pa_cons (pv 1) (pa_cons (pv 2) pa_nil))))
      (pss_cons (ps_set (i := 4) sc_law_world_so.nd rfl (.inl rfl) (pcall (ok_law_chapter T) hr (pa_cons (pv 1) (pa_cons (pv 2) pa_nil))))
      (pss_cons (ps_set (i := 5) sc_law_world_so.nd rfl (.inl rfl) (pe_lst (pa_cons (pe_fldK (K := K) rfl (pv 0) rfl) (pa_cons (pe_callB (call_lenOwn (ok_World___len T) hr) (by rfl) T.n_len PySem.boot_len (pa_cons (pv 0) pa_nil)) (pa_cons (pmeth0 T.c_World (ok_World_eyes T) hr (pv 0)) (pa_cons (pmeth0 T.c_World (ok_World_partings T) hr (pv 0)) (pa_cons (pmeth0 T.c_World (ok_World_text T) hr (pv 0)) (pa_cons (pe_callTy (call_strOwn (ok_World___str T) hr) (by rfl) T.n_str PyProof.Rows.boot_str (pa_cons (pv 0) pa_nil)) (pa_cons (pe_callB (call_reprOwn (ok_World___repr T) hr) (by rfl) T.n_repr PyProof.Rows.boot_repr (pa_cons (pv 0) pa_nil)) pa_nil)))))))))
      (pss_one (ps_ret (pcall (ok_law_sd T 12) hr (pa_cons (pv 5) (pa_cons (pe_lst (pa_cons (pv 1) (pa_cons (pv 1) (pa_cons (pe_callTy (call_list_dK rfl) (by rfl) T.n_list PyProof.Rows.boot_list (pa_cons (pv 3) pa_nil)) (pa_cons (pv 3) (pa_cons (pv 4) (pa_cons (pv 4) (pa_cons (pe_op op_add_str (pe_op op_add_str pe_str (pe_callTy call_str_int (by rfl) T.n_str PyProof.Rows.boot_str (pa_cons (pv 1) pa_nil))) pe_str) pa_nil)))))))) pa_nil)))))))), ?_⟩
    have hn : n ≤ 4096 := by have := ok.n2; omega
    refine ⟨_, rfl, _, rfl, n, l, f, rfl, hn, hV, ok.few, ok.nd, fun D H1 y1 e1 hD hy1 hs1 hV1 => ?_⟩
    rw [ok.one hy1 hs1] at hV1
    refine ⟨_, rfl, _, rfl, n, l, f, rfl, hn, hV.mono e1, ok.few, ok.nd, ok.nm, fun H2 y2 e2 hy2 hs2 => ?_⟩
    rw [ok.one hy2 hs2]
    have hW0 : ∀ H', Ex H H' → WorldAt AA.World H' (.ref p) n (seenV n f ys) := fun H' e => ⟨p, dx, D0, rfl, e _ _ hp, hV0.mono e⟩
    have hfew := ok.fewV
    have hgn := seenV_nodup (n := n) (f := f) (ok.pm.nodup_iff.mpr ok.nd)
    generalize seenV n f ys = g at hW0 hfew hV1 hgn
    have x2 := e1.trans e2
    refine ⟨_, rfl, p, AA.World, dx, _, _, rfl, x2 _ _ hp, T.c_World, T.a_World_many, wf_many, _, rfl, p, dx, _, rfl, x2 _ _ hp, .ref p, n, g, rfl, hn, hW0 _ x2, n, rfl, by omega, ?_⟩
    refine ⟨_, rfl, p, dx, _, rfl, x2 _ _ hp, wf_no (by decide +kernel) (by decide +kernel), .ref p, n, g, rfl, hW0 _ x2, fun L3 H3 e3 hL3 hL3' => ?_⟩
    have x3 := x2.trans e3
    refine ⟨_, rfl, p, dx, _, rfl, x3 _ _ hp, wf_no (by decide +kernel) (by decide +kernel), .ref p, n, g, rfl, hW0 _ x3, fun D4 H4 e4 hD4 hV4 => ?_⟩
    have e4' := e4
    have x4 := x3.trans e4
    refine ⟨_, rfl, p, dx, _, rfl, x4 _ _ hp, wf_no (by decide +kernel) (by decide +kernel), .ref p, n, g, rfl, hfew, hW0 _ x4, fun H5 e5 => ?_⟩
    have x5 := x4.trans e5
    refine ⟨_, rfl, p, dx, _, rfl, x5 _ _ hp, .ref p, n, g, rfl, hfew, hW0 _ x5, fun H6 e6 => ⟨_, rfl, ?_⟩⟩
    have x6 := x5.trans e6
    refine ⟨_, rfl, p, dx, _, rfl, x6 _ _ hp, .ref p, n, g, rfl, hn, hW0 _ x6, _, rfl, by show 7 ≤ sizeLine; decide, fun U hU => ?_⟩
    have e7 := Ex.new (o := .lst [.int (n : Int), .int (n : Int), .ref L3, .ref D4, .str (chapS n g), .str (chapS n g), .str (reprS n)]) hU
    have hU' := upd_same (H := H6) (a := U) (o := HO.lst [.int (n : Int), .int (n : Int), .ref L3, .ref D4, .str (chapS n g), .str (chapS n g), .str (reprS n)])
    have hX : Ex H4 H6 := e5.trans e6
    generalize chapS n g = ch at hU' e7 ⊢
    generalize upd H6 U _ = H7 at hU' e7 ⊢
    obtain ⟨W, w1, w2, w3⟩ := hV1
    have x17 : Ex H1 H7 := ((((e2.trans e3).trans e4).trans e5).trans e6).trans e7
    refine ⟨_, rfl, _, rfl, _, rfl, _, rfl, D, vK W, rfl, x17 _ _ w1, fun L8 hL8 => ?_⟩
    have e4 : (Str.ofString "World(").length = 6 := by decide +kernel
    have e2 : (Str.ofString " cases)").length = 7 := by decide +kernel
    have hl := natS_len hn
    have big : 16777216 ≤ sizeLine := by rw [sizeLine_eq]; decide
    have hNL : ((vK W).map fun kv => kV kv.1) = (g.map (·.1)).map V.str := by
      rw [← w2]
      unfold vK vW
      rw [List.map_map, List.map_map, List.map_map]
      rfl
    rw [hNL]
    have e8 := Ex.new (o := .lst ((g.map (·.1)).map V.str)) hL8
    have hL8' := upd_same (H := H7) (a := L8) (o := HO.lst ((g.map (·.1)).map V.str))
    generalize upd H7 L8 (.lst ((g.map (·.1)).map V.str)) = H8 at e8 hL8' ⊢
    refine ⟨_, rfl, _, rfl, _, rfl, _, rfl, n, rfl, natS_log hn, Str.ofString "World(", natS n, rfl, rfl, ?_, Str.ofString "World(" ++ natS n, Str.ofString " cases)", rfl, rfl, ?_, by show 7 ≤ sizeLine; decide, fun U2 hU2 => ?_⟩
    · rw [e4]
      omega
    · rw [Str.length_append, e4, e2]
      omega
    have hrp : Str.ofString "World(" ++ natS n ++ Str.ofString " cases)" = reprS n := by
      unfold reprS
      rfl
    rw [hrp]
    have e9 := Ex.new (o := .lst [.int (n : Int), .int (n : Int), .ref L8, .ref D, .str ch, .str ch, .str (reprS n)]) hU2
    have hU2' := upd_same (H := H8) (a := U2) (o := HO.lst [.int (n : Int), .int (n : Int), .ref L8, .ref D, .str ch, .str ch, .str (reprS n)])
    generalize upd H8 U2 _ = H9 at e9 hU2' ⊢
    have hlists : Sd H9 11 (.ref L3) (.ref L8) := by
      refine .lst (e9 _ _ (e8 _ _ (e7 _ _ (hX _ _ (e4' _ _ hL3'))))) (e9 _ _ hL8') rfl ?_ fun i u v h1 h2 => ?_
      · rw [List.length_map, List.length_map]
        have := hfew.2.1
        omega
      · rw [h1] at h2
        cases h2
        rw [List.getElem?_map] at h1
        obtain ⟨z, _, rfl⟩ := Option.map_eq_some_iff.mp h1
        exact .str'
    have hV9 : VwAt H9 D n g := ⟨W, e9 _ _ (e8 _ _ (x17 _ _ w1)), w2, fun e he => ⟨e9 _ _ (e8 _ _ (x17 _ _ (w3 e he).1)), (w3 e he).2⟩⟩
    have hdicts : Sd H9 11 (.ref D4) (.ref D) := .vw hn (by have := hfew.2.1; omega) hgn (hV4.mono (((hX.trans e7).trans e8).trans e9)) hV9
    refine ⟨.ref U, .ref U2, rfl, ?_, fun H10 e10 => q _ ((((x6.trans e7).trans e8).trans e9).trans e10)⟩
    exact Sds.lst (.cons .int' (.cons .int' (.cons hlists (.cons hdicts (.cons .str' (.cons .str' (.cons .str' .nil))))))) (e9 _ _ (e8 _ _ hU')) hU2' (by show 7 ≤ 90000; decide)
end
end Eyes

set_option Elab.async false
set_option linter.all false
set_option maxRecDepth 100000
set_option maxHeartbeats 4000000
/-! Worlds without ties; worlds of given partings. -/
namespace Eyes
open PySem PySem.Spec PyProof.Rows L2 Evl TL
theorem wfl_put {n : Nat} {D D2 : Addr} : putF "_partings" (.ref D2) (wfl n D) = wfl n D2 := by
  unfold wfl
  rfl
def spWith (C : Addr) : Sp := fun vs H Q _ => ∃ (n : Nat) (l : Addr) (f : Vw), vs = [.int (n : Int), .ref l] ∧ 1 ≤ n ∧ n ≤ 2400 ∧ VwAt H l n f ∧ f.length < 64 ∧ (f.map (·.1)).Nodup ∧
  ∀ v H' ys, Ex H H' → ys.Perm (f.map (·.1)) → sortedS ys = true → WorldAt C H' v n (seenV n f ys) → Q v H'
section
variable {P : Program} {w : World} {K : PySem.W.Frag} {mg : Str → Option Value} {base : Heap} {AA : Adr}
theorem ok_World___init0 (T : Txt K mg AA) : PrI0 P w K mg base AA.World p_World___init 5 (spInitW K AA.World) := pri0_mk T.j_World sc_World___init (fun vs H Q E h => world_len h) fun f cdv A outer s H vs Q E hr h => world_body T f cdv A outer s H vs Q E hr h
theorem ok_world_with (T : Txt K mg AA) : Pr P w K mg base "world_with" s_world_with p_world_with 7 (spWith AA.World) := by
  refine pr_mk T.f_world_with sc_world_with (fun vs H Q E h => ?_) (fun f cdv A outer s H vs Q E hr h => ?_)
  · obtain ⟨n, l, f, rfl, _⟩ := h
    rfl
  · obtain ⟨n, l, f, rfl, h1, h2, hV, hfl, hnd, q⟩ := h
    refine ⟨_, (pss_cons (ps_set (i := 2) sc_world_with.nd rfl (.inl rfl) (pmake0 (K := K) rfl T.m_World (ok_World___init0 T) hr (pa_cons (pv 0) pa_nil)))
      (pss_cons (ps_fld (pv 2) (pcall (ok_counting T) hr (pa_cons (pv 0) (pa_cons (pv 1) pa_nil))) rfl)
      (pss_one (ps_ret (pv 2))))), ?_⟩
    intro d hd
    refine ⟨_, rfl, fun x dx hx hdx hxd => ?_⟩
    have eX : Ex H (upd (upd H dx (.own x)) x (.ins AA.World dx [])) := (Ex.new hdx).trans (Ex.new ((upd_ne (Ne.symm hxd)).trans hx))
    refine ⟨x, dx, d, n, [], [], H, rfl, hx, eX, upd_same, .inr (hd H), ⟨rfl, fun i u k h => by cases h⟩, by decide, fun k hk => (nomatch hk), h1, h2, fun H1 ys e1 hys hso hW => ⟨rfl, ?_⟩⟩
    obtain ⟨p, dx1, D1, hpx, hp, hV1⟩ := hW
    cases hpx
    refine ⟨_, rfl, _, rfl, n, l, f, rfl, by omega, hV.mono e1, hfl, hnd, fun D2 H2 ys2 e2 hD2 hys2 hso2 hV2 => ?_⟩
    have hx2 := e2 _ _ hp
    refine ⟨_, rfl, x, AA.World, dx1, _, rfl, hx2, T.c_World, T.a_World_partings, by show 2 < 1000; decide, ?_⟩
    rw [wfl_put]
    obtain ⟨W, g1, g2, g3⟩ := hV2
    have hne : D2 ≠ x := fun z => by
      rw [z, hx2] at g1
      cases g1
    refine ⟨_, rfl, q (.ref x) _ ys2 ((e1.trans e2).mut hx) hys2 hso2 ⟨x, dx1, D2, rfl, upd_same, W, (upd_ne hne).trans g1, g2, fun e he => ⟨?_, (g3 e he).2⟩⟩⟩
    have g := (g3 e he).1
    rw [upd_ne fun z => by rw [z, hx2] at g; cases g]
    exact g
end
end Eyes

set_option Elab.async false
set_option linter.all false
set_option maxRecDepth 100000
set_option maxHeartbeats 4000000
/-! == of two dicts whose values are data. -/
namespace Eyes
open PySem PySem.Spec PyProof.Rows L2
def FDat (K : PySem.W.Frag) (H : Hp) (x y : V) : Prop := ∃ d e, Dp K H x d ∧ Dp K H y e ∧ SeqAt.shaped d = true ∧ SeqAt.shaped e = true ∧ PyData.eqv d e = true
def rEqDD (K : PySem.W.Frag) : R2 := fun x y H Q => ∃ a b ks ls, x = .ref a ∧ y = .ref b ∧ H a = some (.dK ks) ∧ H b = some (.dK ls) ∧ ks.length = ls.length ∧ (∀ p ∈ ks, ∃ u, valV ls p.1 = some u ∧ FDat K H p.2 u) ∧ Q (.bl true) H
end Eyes

set_option Elab.async false
set_option linter.all false
set_option maxRecDepth 100000
set_option maxHeartbeats 4000000
/-! name = {k: v for ..}, the name a local. -/
namespace Eyes
open PySem PySem.Spec PyProof.Rows L2
section
variable {X : Cx}
end
end Eyes

set_option Elab.async false
set_option linter.all false
set_option maxRecDepth 100000
set_option maxHeartbeats 4000000
/-! Worlds: == and +. -/
namespace Eyes
open PySem PySem.Spec PyProof.Rows L2 Evl TL
def gP (n : Nat) (f : Vw) (t : Str) : List Nat := (wGet f t).getD (alone n)
def addV (n m : Nat) (f g : Vw) (ts : List Str) : Vw := ts.foldl (fun a t => wPut a t (besN (gP n f t) (gP m g t))) []
theorem wPut_nodup {f : Vw} {t : Str} {p : List Nat} (h : (f.map (·.1)).Nodup) : ((wPut f t p).map (·.1)).Nodup := by
  rw [wPut_names]
  split
  · exact h
  · rename_i z
    refine List.nodup_append.mpr ⟨h, by simp, fun x hx y hy e => ?_⟩
    rw [List.mem_singleton.mp hy] at e
    rw [e] at hx
    exact z hx
theorem wPut_len {f : Vw} {t : Str} {p : List Nat} : (wPut f t p).length ≤ f.length + 1 := by
  have e : (wPut f t p).length = ((wPut f t p).map (·.1)).length := (List.length_map ..).symm
  rw [e, wPut_names]
  split
  · rw [List.length_map]
    omega
  · rw [List.length_append, List.length_map]
    exact Nat.le_refl _
def spEqW (C : Addr) : Sp := fun vs H Q _ => ∃ (v u : V) (n : Nat) (f : Vw), vs = [v, u] ∧ n ≤ 4096 ∧ WorldAt C H v n f ∧ WorldAt C H u n f ∧ (f.map (·.1)).Nodup ∧ Q (.bl true) H
def spAddW (C : Addr) : Sp := fun vs H Q _ => ∃ (v u : V) (n m : Nat) (f g : Vw), vs = [v, u] ∧ 1 ≤ n ∧ 1 ≤ m ∧ n + m ≤ 2400 ∧ WorldAt C H v n f ∧ WorldAt C H u m g ∧ f.length + g.length < 64 ∧
  ∀ x H' ys, Ex H H' → ys.Perm ((addV n m f g (f.map (·.1) ++ g.map (·.1))).map (·.1)) → sortedS ys = true → WorldAt C H' x (n + m) (seenV (n + m) (addV n m f g (f.map (·.1) ++ g.map (·.1))) ys) → Q x H'
section
variable {P : Program} {w : World} {K : PySem.W.Frag} {mg : Str → Option Value} {base : Heap} {AA : Adr}
end
end Eyes

set_option Elab.async false
set_option linter.all false
set_option maxRecDepth 100000
set_option maxHeartbeats 4000000
/-! The mathematics of worlds: what is counted is told by the partings. -/
namespace Eyes
open PySem PySem.Spec PyProof.Rows L2 Evl TL
/-! ### what is counted -/
theorem wGet_put {f : Vw} {t u : Str} {p : List Nat} : wGet (wPut f t p) u = if u = t then some p else wGet f u := by
  unfold wPut
  split
  · rename_i h
    by_cases e : u = t
    · subst e
      rw [if_pos rfl]
      induction f with
      | nil => cases h
      | cons x f ih =>
        unfold wGet at ih ⊢
        rw [List.map_cons, List.find?_cons]
        by_cases hx : x.1 = u
        · rw [if_pos hx, decide_eq_true hx]
          rfl
        · rw [if_neg hx, decide_eq_false hx]
          rw [List.any_cons, decide_eq_false hx, Bool.false_or] at h
          exact ih h
    · rw [if_neg e]
      clear h
      induction f with
      | nil => rfl
      | cons x f ih =>
        unfold wGet at ih ⊢
        rw [List.map_cons, List.find?_cons, List.find?_cons]
        by_cases hx : x.1 = u
        · have hxt : x.1 ≠ t := fun z => e (hx.symm.trans z)
          rw [if_neg hxt, decide_eq_true hx]
        · have hd : decide ((if x.1 = t then (x.1, p) else x).1 = u) = false := by
            refine decide_eq_false ?_
            split <;> exact hx
          rw [hd, decide_eq_false hx]
          exact ih
  · rename_i h
    have hn : t ∉ f.map (·.1) := fun z => by
      obtain ⟨x, hx, rfl⟩ := List.mem_map.mp z
      exact h (List.any_eq_true.mpr ⟨x, hx, decide_eq_true rfl⟩)
    unfold wGet
    rw [List.find?_append]
    by_cases e : u = t
    · subst e
      have hw := wGet_none hn
      unfold wGet at hw
      rw [Option.map_eq_none_iff] at hw
      rw [if_pos rfl, hw, Option.none_or, List.find?_cons, decide_eq_true rfl]
      rfl
    · rw [if_neg e, List.find?_cons, decide_eq_false fun z => e z.symm]
      show Option.map _ (Option.or _ none) = _
      rw [Option.or_none]
theorem seen1_gP {n : Nat} {f : Vw} {t : Str} : seen1 n f t = if gP n f t = alone n then none else some (t, gP n f t) := by
  unfold seen1 gP
  cases wGet f t with
  | none =>
    show none = if alone n = alone n then none else some (t, alone n)
    rw [if_pos rfl]
  | some p => rfl
theorem seenV_filter {n : Nat} {f : Vw} : ∀ ys : List Str, seenV n f ys = (ys.filter fun t => decide (gP n f t ≠ alone n)).map fun t => (t, gP n f t)
  | [] => rfl
  | y :: ys => by
    have ih := seenV_filter (n := n) (f := f) ys
    unfold seenV at ih ⊢
    by_cases h : gP n f y = alone n
    · rw [List.filterMap_cons_none (by rw [seen1_gP, if_pos h]), List.filter_cons_of_neg (by simp [h]), ih]
    · rw [List.filterMap_cons_some (by rw [seen1_gP, if_neg h]), List.filter_cons_of_pos (by simp [h]), ih]
      rfl
theorem srt_ext : ∀ {l m : List Str}, l.Nodup → m.Nodup → (∀ t, t ∈ l ↔ t ∈ m) → (l.Pairwise fun a b => leC a.cps.toList b.cps.toList) → (m.Pairwise fun a b => leC a.cps.toList b.cps.toList) → l = m
  | [], [], _, _, _, _, _ => rfl
  | [], y :: m, _, _, h, _, _ => nomatch (h y).mpr List.mem_cons_self
  | x :: l, [], _, _, h, _, _ => nomatch (h x).mp List.mem_cons_self
  | x :: l, y :: m, hl, hm, h, h1, h2 => by
    have hl := List.nodup_cons.mp hl
    have hm := List.nodup_cons.mp hm
    have e : x = y := by
      rcases List.mem_cons.mp ((h x).mp List.mem_cons_self) with e | hx
      · exact e
      · rcases List.mem_cons.mp ((h y).mpr List.mem_cons_self) with e | hy
        · exact e.symm
        · exact str_cps (ltC_total _ _ (List.rel_of_pairwise_cons h2 hx) (List.rel_of_pairwise_cons h1 hy))
    subst e
    refine congrArg (x :: ·) (srt_ext hl.2 hm.2 (fun t => ⟨fun ht => ?_, fun ht => ?_⟩) (List.pairwise_cons.mp h1).2 (List.pairwise_cons.mp h2).2)
    · rcases List.mem_cons.mp ((h t).mp (List.mem_cons_of_mem _ ht)) with e | z
      · exact absurd (e ▸ ht) hl.1
      · exact z
    · rcases List.mem_cons.mp ((h t).mpr (List.mem_cons_of_mem _ ht)) with e | z
      · exact absurd (e ▸ ht) hm.1
      · exact z
theorem seen_canon {n : Nat} {f g : Vw} {ys zs : List Str} (h : ∀ t, gP n f t = gP n g t) (hy : ys.Perm (f.map (·.1))) (hz : zs.Perm (g.map (·.1))) (fn : (f.map (·.1)).Nodup) (gn : (g.map (·.1)).Nodup) (sy : sortedS ys = true) (sz : sortedS zs = true) : seenV n f ys = seenV n g zs := by
  rw [seenV_filter, seenV_filter]
  have mem : ∀ {f : Vw} {ys : List Str}, ys.Perm (f.map (·.1)) → ∀ t, t ∈ (ys.filter fun t => decide (gP n f t ≠ alone n)) ↔ gP n f t ≠ alone n := fun {f ys} hp t => by
    rw [List.mem_filter, decide_eq_true_eq]
    refine ⟨fun z => z.2, fun z => ⟨hp.mem_iff.mpr ?_, z⟩⟩
    refine Decidable.byContradiction fun hn => z ?_
    unfold gP
    rw [wGet_none hn]
    rfl
  have e : (ys.filter fun t => decide (gP n f t ≠ alone n)) = zs.filter fun t => decide (gP n g t ≠ alone n) := srt_ext ((hy.nodup_iff.mpr fn).filter _) ((hz.nodup_iff.mpr gn).filter _) (fun t => by rw [mem hy, mem hz, h t]) ((sortedS_pw sy).filter _) ((sortedS_pw sz).filter _)
  rw [e]
  exact List.map_congr_left fun t _ => by rw [h t]
theorem seen_gP {n : Nat} {f : Vw} {ys : List Str} (h : ys.Perm (f.map (·.1))) (t : Str) : gP n (seenV n f ys) t = gP n f t := seen_same h t
theorem seenV_sub {n : Nat} {f : Vw} {ys : List Str} {t : Str} (hp : ys.Perm (f.map (·.1))) (h : t ∈ (seenV n f ys).map (·.1)) : t ∈ f.map (·.1) := by
  rw [seenV_filter, List.map_map] at h
  obtain ⟨x, hx, rfl⟩ := List.mem_map.mp h
  exact hp.mem_iff.mp (List.mem_filter.mp hx).1
theorem seenV_len {n : Nat} {f : Vw} {ys : List Str} (hp : ys.Perm (f.map (·.1))) : (seenV n f ys).length ≤ f.length := by
  rw [seenV_filter, List.length_map]
  refine Nat.le_trans (List.length_filter_le _ _) (Nat.le_of_eq ?_)
  rw [hp.length_eq, List.length_map]
end Eyes

set_option Elab.async false
set_option linter.all false
set_option maxRecDepth 100000
set_option maxHeartbeats 4000000
/-! Putting in, mirroring, exchanging: plain Lean. -/
namespace Eyes
open PySem PySem.Spec PyProof.Rows L2 Evl TL
mutual
def mapC (f : Bool) (r : Str → Str) : Ci → Ci
  | .eye n => .eye (r n)
  | .node k ps => .node (k ^^ f) (mapsC f r ps)
def mapsC (f : Bool) (r : Str → Str) : List Ci → List Ci
  | [] => []
  | c :: s => mapC f r c :: mapsC f r s
end
structure Sw (r : Str → Str) : Prop where
  inv : ∀ n, r (r n) = n
  nm : ∀ n, nm n → nm (r n)
theorem Sw.id : Sw (fun n => n) := ⟨fun _ => rfl, fun _ h => h⟩
def swp2 (x y n : Str) : Str := if n = x then y else if n = y then x else n
theorem Sw.two {x y : Str} (hx : Eyes.nm x) (hy : Eyes.nm y) : Sw (swp2 x y) := by
  refine ⟨fun n => ?_, fun n h => ?_⟩
  · unfold swp2
    by_cases h1 : n = x
    · rw [if_pos h1]
      by_cases h2 : y = x
      · rw [if_pos h2, h2, h1]
      · rw [if_neg h2, if_pos rfl, h1]
    · rw [if_neg h1]
      by_cases h2 : n = y
      · rw [if_pos h2, if_pos rfl, h2]
      · rw [if_neg h2, if_neg h1, if_neg h2]
  · unfold swp2
    by_cases h1 : n = x
    · rw [if_pos h1]; exact hy
    · rw [if_neg h1]
      by_cases h2 : n = y
      · rw [if_pos h2]; exact hx
      · rw [if_neg h2]; exact h
section
variable {f : Bool} {r : Str → Str}
end
abbrev flip (c : Ci) : Ci := mapC true (fun n => n) c
/-! ### which bound is passed -/
def over (c : Ci) : Option (Str × Nat) := if 60 < c.size then some ("eyes", 60) else if 20 < c.depth then some ("depth", 20) else none
theorem over_none {c : Ci} : over c = none ↔ c.size ≤ 60 ∧ c.depth ≤ 20 := by
  unfold over
  by_cases h : 60 < c.size
  · rw [if_pos h]
    exact ⟨fun z => (nomatch z), fun z => absurd z.1 (by omega)⟩
  · rw [if_neg h]
    by_cases g : 20 < c.depth
    · rw [if_pos g]
      exact ⟨fun z => (nomatch z), fun z => absurd z.2 (by omega)⟩
    · rw [if_neg g]
      exact ⟨fun _ => ⟨by omega, by omega⟩, fun _ => rfl⟩
/-! ### putting in -/
inductive Rs (α : Type) where
  | no (z : Str × Nat)
  | yes (a : α)
def Rs.map {α β : Type} (h : α → β) : Rs α → Rs β
  | .no z => .no z
  | .yes a => .yes (h a)
def Rs.bind {α β : Type} : Rs α → (α → Rs β) → Rs β
  | .no z, _ => .no z
  | .yes a, h => h a
def chk (c : Ci) : Rs Ci := match over c with
  | some z => .no z
  | none => .yes c
mutual
def putC (g : Str → Ci) : Ci → Rs Ci
  | .eye n => .yes (g n)
  | .node k ps => (putsC g ps).bind fun cs => chk (mkC k cs)
def putsC (g : Str → Ci) : List Ci → Rs (List Ci)
  | [] => .yes []
  | c :: s => (putC g c).bind fun d => (putsC g s).bind fun ds => .yes (d :: ds)
end
def Ci.nice (c : Ci) : Prop := c.norm ∧ c.size ≤ 60 ∧ c.depth ≤ 20
theorem Ci.nice.fine {c : Ci} (h : c.nice) : c.fine := ⟨norm_of h.1, h.2.1⟩
theorem Ci.nice.over {c : Ci} (h : c.nice) : over c = none := over_none.mpr h.2
section
variable {g : Str → Ci}
end
/-! ### the circles in a circle -/
mutual
def subs : Ci → List Ci
  | .eye n => [.eye n]
  | .node k ps => .node k ps :: subsL ps
def subsL : List Ci → List Ci
  | [] => []
  | c :: s => subs c ++ subsL s
end
def cin (c : Ci) : List Ci := dd [] (subs c)
def cinL (ps : List Ci) : List Ci := (ps.map cin).flatten
end Eyes

set_option Elab.async false
set_option linter.all false
set_option maxRecDepth 100000
set_option maxHeartbeats 4000000
namespace Eyes
open PySem PySem.Spec PyProof.Rows L2 Evl TL
theorem depths_bdW {n : Nat} : ∀ {ps : List Ci}, (∀ c ∈ ps, c.depth ≤ n) → depths ps ≤ n
  | [], _ => Nat.zero_le _
  | c :: r, h => by
    have h1 := h c List.mem_cons_self
    have h2 := depths_bdW (ps := r) fun d hd => h d (List.mem_cons_of_mem _ hd)
    show max c.depth (depths r) ≤ n
    omega
theorem mk_sizeW {k : Bool} {cs : List Ci} (h : ∀ c ∈ cs, c.norm) : (mkC k cs).size ≤ sizes cs := by
  rw [mkC_sz, ← sizes_flat (k := k) cs]
  exact sub_sizes (pts_nodup h) fun y hy => (pts_mem h).mp hy
theorem flat_dpW {k : Bool} {n : Nat} {cs : List Ci} (h : ∀ c ∈ cs, c.depth ≤ n) : ∀ d ∈ flat k cs, d.depth ≤ n := fun d hd => by
  obtain ⟨c, hc, hd⟩ := flat_mem.mp hd
  have h1 := h c hc
  by_cases g : c.isK k = true
  · rw [if_pos g] at hd
    cases c with
    | eye t => cases g
    | node j ps =>
      have h2 := depths_le (show d ∈ ps from hd)
      have h1 : 1 + depths ps ≤ n := h1
      omega
  · rw [if_neg g] at hd
    rw [List.mem_singleton.mp hd]
    exact h1
theorem mk_depthW {k : Bool} {n : Nat} {cs : List Ci} (hn : ∀ c ∈ cs, c.norm) (h : ∀ c ∈ cs, c.depth ≤ n) : (mkC k cs).depth ≤ n + 1 := by
  have h1 : ∀ d ∈ pts k cs, d.depth ≤ n := fun d hd => flat_dpW h d ((pts_mem hn).mp hd)
  by_cases g : (pts k cs).length = 1
  · obtain ⟨c, hc⟩ := List.length_eq_one_iff.mp g
    rw [mkC_one hc]
    have := h1 c (by rw [hc]; exact List.mem_cons_self)
    omega
  · rw [mkC_more g]
    have := depths_bdW h1
    show 1 + depths (pts k cs) ≤ n + 1
    omega
end Eyes

set_option Elab.async false
set_option linter.all false
set_option maxRecDepth 100000
set_option maxHeartbeats 4000000
/-! The mathematics of worlds: ties put to a parting, names exchanged, circles put in, more ties. -/
namespace Eyes
open PySem PySem.Spec PyProof.Rows L2 Evl TL
theorem gP_put {n : Nat} {f : Vw} {x t : Str} {p : List Nat} : gP n (wPut f x p) t = if t = x then p else gP n f t := by
  unfold gP
  rw [wGet_put]
  split <;> rfl
/-! ### a tie -/
section
variable {n : Nat} {p q r : List Nat}
theorem mrg1_le {x y : Nat} (hp : IsP n p) (hx : 1 ≤ x ∧ x ≤ n) (hy : 1 ≤ y ∧ y ≤ n) (h : Le n p r) (e : ali r x y) : Le n (mrg1 p x y) r := fun a b h1 h2 h3 h4 z =>
  mrg1_least hp hx hy ⟨h1, h2⟩ ⟨h3, h4⟩ (f := itm r) (fun u v u1 u2 v1 v2 w => h u v u1 u2 v1 v2 w) e z
theorem le_mrg1 {x y : Nat} (hp : IsP n p) : Le n p (mrg1 p x y) := fun a b h1 h2 h3 h4 z => mrg1_keeps hp ⟨h1, h2⟩ ⟨h3, h4⟩ z
theorem tie_join {x y : Nat} (hp : IsP n p) (hx : 1 ≤ x ∧ x ≤ n) (hy : 1 ≤ y ∧ y ≤ n) : mrgs (alone n) ([p, mrgs (alone n) [(x, y)]].flatMap (less n)) = mrg1 p x y := by
  have hq : IsP n (mrg1 (alone n) x y) := isP_mrg1 (isP_alone n) hx hy
  have hm : IsP n (mrg1 p x y) := isP_mrg1 hp hx hy
  rw [show mrgs (alone n) [(x, y)] = mrg1 (alone n) x y from rfl, joined_cons hp (fun z hz => by rw [List.mem_singleton.mp hz]; exact hq)]
  show joinN n p (mrg1 (alone n) x y) = _
  refine Le.anti (join_isP hp hq) hm (join_le hp hq (le_mrg1 hp) (mrg1_le (isP_alone n) hx hy (fun a b h1 h2 h3 h4 z => ?_) (mrg1_joins hp hx hy))) (mrg1_le hp hx hy (le_join_l hp hq) ?_)
  · unfold ali at z
    rw [itm_alone h1 h2, itm_alone h3 h4] at z
    rw [z]
    rfl
  · exact le_join_r hp hq x y hx.1 hx.2 hy.1 hy.2 (mrg1_joins (isP_alone n) hx hy)
end
/-! ### ties in any order -/
def inK (n : Nat) (k : Knot) : Prop := (1 ≤ k.2.1 ∧ k.2.1 ≤ n) ∧ 1 ≤ k.2.2 ∧ k.2.2 ≤ n
def prsK (ks : List Knot) (t : Str) : List (Nat × Nat) := (ks.filter fun k => decide (k.1 = t)).map (·.2)
theorem knots_gP {n : Nat} {t : Str} : ∀ (ks : List Knot) (f : Vw), gP n (ks.foldl (knotV n) f) t = mrgs (gP n f t) (prsK ks t)
  | [], _ => rfl
  | k :: ks, f => by
    rw [List.foldl_cons, knots_gP ks]
    have e : gP n (knotV n f k) t = if t = k.1 then mrg1 (gP n f t) k.2.1 k.2.2 else gP n f t := by
      unfold knotV
      rw [gP_put]
      split
      · rename_i h
        subst h
        rfl
      · rfl
    unfold prsK
    rw [e]
    by_cases h : k.1 = t
    · rw [if_pos h.symm, List.filter_cons_of_pos (by simp [h])]
      rfl
    · rw [if_neg fun z => h z.symm, List.filter_cons_of_neg (by simp [h])]
theorem knotsV_gP {n : Nat} {t : Str} {ks : List Knot} : gP n (knotsV n ks) t = mrgs (alone n) (prsK ks t) := knots_gP ks []
theorem prsK_in {n : Nat} {ks : List Knot} {t : Str} (h : ∀ k ∈ ks, inK n k) : ∀ xy ∈ prsK ks t, (1 ≤ xy.1 ∧ xy.1 ≤ n) ∧ 1 ≤ xy.2 ∧ xy.2 ≤ n := fun xy hx => by
  obtain ⟨k, hk, rfl⟩ := List.mem_map.mp hx
  exact h k (List.mem_filter.mp hk).1
/-! ### circles -/
section
variable {n : Nat} {f g : Vw}
end
section
variable {n : Nat} {f g : Vw}
end
/-! ### what is put in is not too large -/
end Eyes

set_option Elab.async false
set_option linter.all false
namespace Eyes
open PySem PySem.Spec PyProof.Rows L2
end Eyes

set_option Elab.async false
set_option linter.all false
set_option maxRecDepth 100000
set_option maxHeartbeats 4000000
/-! What goes over a list or a tuple: one reading for both. -/
namespace Eyes
open PySem PySem.Spec PyProof.Rows L2 Evl TL
theorem lt_var {K : PySem.W.Frag} {i : Nat} {σ : L2.St} {H : Hp} {a : Addr} {xs : List V} {R : It → Hp → Prop} (hv : σ[i]? = some (some (.ref a))) (ha : SqLT K H a xs)
    (h : ∀ (J : It) (GG : Hp → Prop), Walk J xs.length GG (YAt xs) → (∀ H', Ex H H' → GG H') → R J H) : iList K (tVar i) σ H R ∨ iTup K (tVar i) σ H R := by
  rcases ha with ha | ha
  · exact .inl ⟨.ref a, hv, a, rfl, ⟨xs, ha⟩, h _ _ walk_list fun H' e => ex_l e ha⟩
  · exact .inr ⟨.ref a, hv, a, rfl, ⟨xs, ha⟩, h _ _ walk_tup fun H' e => ex_t e ha⟩
end Eyes

set_option Elab.async false
set_option linter.all false
set_option maxRecDepth 100000
set_option maxHeartbeats 1000000
namespace Eyes
open PySem PySem.Spec PyProof.Rows L2
/-! Some of the cases in their order; what is reached in so many steps. -/
def selN (n : Nat) (f : Nat → Bool) : List Nat := (alone n).filter f
theorem aln_mem {n x : Nat} : x ∈ alone n ↔ 1 ≤ x ∧ x ≤ n := by
  unfold alone
  rw [List.mem_map]
  constructor
  · rintro ⟨y, hy, rfl⟩
    have := List.mem_range.mp hy
    omega
  · rintro ⟨h1, h2⟩
    exact ⟨x - 1, List.mem_range.mpr (by omega), by omega⟩
theorem aln_nodup (n : Nat) : (alone n).Nodup := by
  unfold alone
  exact List.Pairwise.map _ (fun a b h z => h (by omega)) List.nodup_range
theorem sel_mem {n : Nat} {f : Nat → Bool} {x : Nat} : x ∈ selN n f ↔ (1 ≤ x ∧ x ≤ n) ∧ f x = true := by
  unfold selN
  rw [List.mem_filter, aln_mem]
theorem sel_in {n : Nat} {f : Nat → Bool} {x : Nat} (h : x ∈ selN n f) : 1 ≤ x ∧ x ≤ n := (sel_mem.mp h).1
theorem sel_nodup (n : Nat) (f : Nat → Bool) : (selN n f).Nodup := (aln_nodup n).filter _
theorem sel_len (n : Nat) (f : Nat → Bool) : (selN n f).length ≤ n := by
  have := List.length_filter_le f (alone n)
  rw [alone_len] at this
  exact this
theorem sel_congr {n : Nat} {f g : Nat → Bool} (h : ∀ x, 1 ≤ x → x ≤ n → f x = g x) : selN n f = selN n g := by
  unfold selN
  exact List.filter_congr fun x hx => h x (aln_mem.mp hx).1 (aln_mem.mp hx).2
def memB (es : List Nat) (x : Nat) : Bool := decide (x ∈ es)
def sprB (p cs : List Nat) (x : Nat) : Bool := cs.any fun c => decide (itm p c = itm p x)
theorem memB_iff {es : List Nat} {x : Nat} : memB es x = true ↔ x ∈ es := decide_eq_true_iff
theorem sprB_iff {p cs : List Nat} {x : Nat} : sprB p cs x = true ↔ ∃ c ∈ cs, ali p c x := by
  unfold sprB
  rw [List.any_eq_true]
  exact ⟨fun ⟨c, h1, h2⟩ => ⟨c, h1, of_decide_eq_true (p := itm p c = itm p x) h2⟩, fun ⟨c, h1, h2⟩ => ⟨c, h1, decide_eq_true (p := itm p c = itm p x) h2⟩⟩
def othN (n : Nat) (es : List Nat) : List Nat := selN n fun x => !memB es x
def allN (n : Nat) (es : List Nat) : List Nat := selN n (memB es)
def sprN (n : Nat) (p cs : List Nat) : List Nat := selN n (sprB p cs)
theorem oth_mem {n : Nat} {es : List Nat} {x : Nat} : x ∈ othN n es ↔ (1 ≤ x ∧ x ≤ n) ∧ x ∉ es := by
  unfold othN
  rw [sel_mem, Bool.not_eq_true', ← Bool.not_eq_true, memB_iff]
theorem all_mem {n : Nat} {es : List Nat} {x : Nat} : x ∈ allN n es ↔ (1 ≤ x ∧ x ≤ n) ∧ x ∈ es := by
  unfold allN
  rw [sel_mem, memB_iff]
theorem sel_eq {n : Nat} {f g : Nat → Bool} (h : ∀ x, x ∈ selN n f ↔ x ∈ selN n g) : selN n f = selN n g := by
  refine sel_congr fun x h1 h2 => ?_
  have e := h x
  rw [sel_mem, sel_mem] at e
  rw [Bool.eq_iff_iff]
  exact ⟨fun z => (e.mp ⟨⟨h1, h2⟩, z⟩).2, fun z => (e.mpr ⟨⟨h1, h2⟩, z⟩).2⟩
theorem all_sel {n : Nat} {f : Nat → Bool} : allN n (selN n f) = selN n f :=
  sel_eq fun x => by
    show x ∈ allN n (selN n f) ↔ _
    rw [all_mem]
    exact ⟨fun h => h.2, fun h => ⟨sel_in h, h⟩⟩
def knwN (n : Nat) (p es : List Nat) : List Nat := othN n (sprN n p (othN n es))
def Stl (n : Nat) (p es : List Nat) : Prop := ∀ x y, 1 ≤ x → x ≤ n → 1 ≤ y → y ≤ n → ali p x y → x ∈ es → y ∈ es
/-! ### in so many steps -/
section
variable {n : Nat} {ps : List (List Nat)}
def Stp (ps : List (List Nat)) (x y : Nat) : Prop := ∃ p ∈ ps, ali p x y
def Rch (n : Nat) (ps : List (List Nat)) : Nat → Nat → Nat → Prop
  | 0, x, y => x = y
  | k + 1, x, y => ∃ z, (1 ≤ z ∧ z ≤ n) ∧ Rch n ps k x z ∧ Stp ps z y
theorem Stp.symm {x y : Nat} (h : Stp ps x y) : Stp ps y x := by
  obtain ⟨p, h1, h2⟩ := h
  exact ⟨p, h1, h2.symm⟩
theorem Stp.refl (hne : ps ≠ []) {x : Nat} : Stp ps x x := by
  cases ps with
  | nil => exact absurd rfl hne
  | cons p r => exact ⟨p, List.mem_cons_self, rfl⟩
theorem Rch.front {k : Nat} : ∀ {x y z : Nat}, (1 ≤ x ∧ x ≤ n) → (1 ≤ z ∧ z ≤ n) → Stp ps x z → Rch n ps k z y → Rch n ps (k + 1) x y := by
  induction k with
  | zero =>
    intro x y z hx hz s r
    cases r
    exact ⟨x, hx, rfl, s⟩
  | succ k ih =>
    intro x y z hx hz s r
    obtain ⟨u, hu, r1, s1⟩ := r
    exact ⟨u, hu, ih hx hz s r1, s1⟩
theorem Rch.symm {k : Nat} : ∀ {x y : Nat}, (1 ≤ x ∧ x ≤ n) → (1 ≤ y ∧ y ≤ n) → Rch n ps k x y → Rch n ps k y x := by
  induction k with
  | zero =>
    intro x y hx hy r
    exact Eq.symm r
  | succ k ih =>
    intro x y hx hy r
    obtain ⟨z, hz, r1, s1⟩ := r
    exact Rch.front hy hz s1.symm (ih hx hz r1)
theorem Rch.up (hne : ps ≠ []) {k x y : Nat} (hy : 1 ≤ y ∧ y ≤ n) (h : Rch n ps k x y) : Rch n ps (k + 1) x y := ⟨y, hy, h, Stp.refl hne⟩
theorem Rch.mono (hne : ps ≠ []) {k j x y : Nat} (hy : 1 ≤ y ∧ y ≤ n) (hkj : k ≤ j) (h : Rch n ps k x y) : Rch n ps j x y := by
  induction hkj with
  | refl => exact h
  | step _ ih => exact ih.up hne hy
instance rchDec (n : Nat) (ps : List (List Nat)) : ∀ k x y, Decidable (Rch n ps k x y)
  | 0, x, y => inferInstanceAs (Decidable (x = y))
  | k + 1, x, y => by
    have : Decidable (∃ z ∈ alone n, Rch n ps k x z ∧ ∃ p ∈ ps, itm p z = itm p y) :=
      @List.decidableBEx _ _ (fun z => @instDecidableAnd _ _ (rchDec n ps k x z) inferInstance) _
    refine decidable_of_iff (∃ z ∈ alone n, Rch n ps k x z ∧ ∃ p ∈ ps, itm p z = itm p y) ⟨fun h => ?_, fun h => ?_⟩
    · obtain ⟨z, h1, h2, h3⟩ := h
      exact ⟨z, aln_mem.mp h1, h2, h3⟩
    · obtain ⟨z, h1, h2, h3⟩ := h
      exact ⟨z, aln_mem.mpr h1, h2, h3⟩
def rchB (n : Nat) (ps : List (List Nat)) (k x y : Nat) : Bool := decide (Rch n ps k x y)
def widN (n : Nat) (ps : List (List Nat)) (cs : List Nat) : List Nat := selN n fun x => ps.any fun p => sprB p cs x
theorem wid_mem {cs : List Nat} {x : Nat} : x ∈ widN n ps cs ↔ (1 ≤ x ∧ x ≤ n) ∧ ∃ c ∈ cs, Stp ps c x := by
  unfold widN
  rw [sel_mem, List.any_eq_true]
  constructor
  · rintro ⟨h1, p, hp, h⟩
    obtain ⟨c, hc, a⟩ := sprB_iff.mp h
    exact ⟨h1, c, hc, p, hp, a⟩
  · rintro ⟨h1, c, hc, p, hp, a⟩
    exact ⟨h1, p, hp, sprB_iff.mpr ⟨c, hc, a⟩⟩
def witN (n : Nat) (ps : List (List Nat)) : Nat → List Nat → List Nat
  | 0, cs => cs
  | k + 1, cs => widN n ps (witN n ps k cs)
theorem wit_mem {cs : List Nat} (hcs : ∀ c ∈ cs, 1 ≤ c ∧ c ≤ n) : ∀ {k x : Nat}, x ∈ witN n ps k cs ↔ (1 ≤ x ∧ x ≤ n) ∧ ∃ c ∈ cs, Rch n ps k c x
  | 0, x => ⟨fun h => ⟨hcs x h, x, h, rfl⟩, fun ⟨_, c, h, e⟩ => by
    have e : c = x := e
    rw [← e]
    exact h⟩
  | k + 1, x => by
    show x ∈ widN n ps (witN n ps k cs) ↔ _
    rw [wid_mem]
    constructor
    · rintro ⟨h1, z, hz, s⟩
      obtain ⟨hz1, c, hc, r⟩ := (wit_mem hcs).mp hz
      exact ⟨h1, c, hc, z, hz1, r, s⟩
    · rintro ⟨h1, c, hc, z, hz, r, s⟩
      exact ⟨h1, z, (wit_mem hcs).mpr ⟨hz, c, hc, r⟩, s⟩
def kbeN (n : Nat) (ps : List (List Nat)) (k : Nat) (es : List Nat) : List Nat := othN n (witN n ps k (othN n es))
theorem kbe_mem {k : Nat} {es : List Nat} {x : Nat} : x ∈ kbeN n ps k es ↔ (1 ≤ x ∧ x ≤ n) ∧ ∀ y, 1 ≤ y → y ≤ n → Rch n ps k x y → y ∈ es := by
  unfold kbeN
  rw [oth_mem, wit_mem fun c hc => (oth_mem.mp hc).1]
  constructor
  · rintro ⟨h1, h2⟩
    exact ⟨h1, fun y y1 y2 r => Decidable.byContradiction fun z => h2 ⟨h1, y, oth_mem.mpr ⟨⟨y1, y2⟩, z⟩, r.symm h1 ⟨y1, y2⟩⟩⟩
  · rintro ⟨h1, h2⟩
    refine ⟨h1, fun ⟨_, c, hc, r⟩ => ?_⟩
    obtain ⟨c1, c2⟩ := oth_mem.mp hc
    exact c2 (h2 c c1.1 c1.2 (r.symm c1 h1))
theorem sub_nodup_eq {f g : Nat → Bool} (h : ∀ x, f x = true → g x = true) (hl : (selN n f).length = (selN n g).length) : selN n f = selN n g := by
  have e : selN n f = (selN n g).filter f := by
    unfold selN
    rw [List.filter_filter]
    exact List.filter_congr fun x _ => by
      cases hf : f x
      · rfl
      · rw [h x hf]; rfl
  rw [e] at hl ⊢
  exact List.filter_eq_self.mpr (List.length_filter_eq_length_iff.mp hl)
theorem wid_full {f : Nat → Bool} (hne : ps ≠ []) (hl : (widN n ps (selN n f)).length = (selN n f).length) : widN n ps (selN n f) = selN n f := by
  have e : selN n f = selN n (fun x => f x && decide (1 ≤ x) && decide (x ≤ n)) := sel_congr fun x h1 h2 => by
    rw [decide_eq_true h1, decide_eq_true h2, Bool.and_true, Bool.and_true]
  refine Eq.symm ?_
  unfold widN at hl ⊢
  rw [e] at hl ⊢
  refine sub_nodup_eq (fun x hx => ?_) hl.symm
  simp only [Bool.and_eq_true, decide_eq_true_eq] at hx
  have : x ∈ widN n ps (selN n f) := wid_mem.mpr ⟨⟨hx.1.2, hx.2⟩, x, sel_mem.mpr ⟨⟨hx.1.2, hx.2⟩, hx.1.1⟩, Stp.refl hne⟩
  rw [e] at this
  exact (sel_mem.mp this).2
theorem rch_bound (hne : ps ≠ []) {x : Nat} (hx : 1 ≤ x ∧ x ≤ n) {j y : Nat} (hy : 1 ≤ y ∧ y ≤ n) (h : Rch n ps j x y) : Rch n ps n x y := by
  by_cases hj : j ≤ n
  · exact h.mono hne hy hj
  -- the balls about x
  let B : Nat → List Nat := fun k => witN n ps k [x]
  have hB : ∀ k z, z ∈ B k ↔ (1 ≤ z ∧ z ≤ n) ∧ Rch n ps k x z := fun k z => by
    show z ∈ witN n ps k [x] ↔ _
    rw [wit_mem (fun c hc => by rw [List.mem_singleton.mp hc]; exact hx)]
    constructor
    · rintro ⟨h1, c, hc, r⟩
      rw [List.mem_singleton.mp hc] at r
      exact ⟨h1, r⟩
    · rintro ⟨h1, r⟩
      exact ⟨h1, x, List.mem_singleton.mpr rfl, r⟩
  have hsel : ∀ k, ∃ f, B k = selN n f := fun k => by
    cases k with
    | zero =>
      refine ⟨fun z => decide (z = x), ?_⟩
      have h1 : (selN n fun z => decide (z = x)) = [x] := by
        have hn := sel_nodup n (fun z => decide (z = x))
        have hm : ∀ z, z ∈ selN n (fun z => decide (z = x)) ↔ z = x := fun z => by
          rw [sel_mem, decide_eq_true_iff]
          exact ⟨fun h => h.2, fun h => ⟨by rw [h]; exact hx, h⟩⟩
        match hl : selN n (fun z => decide (z = x)) with
        | [] => exact absurd ((hm x).mpr rfl) (by rw [hl]; exact List.not_mem_nil)
        | [a] => rw [(hm a).mp (by rw [hl]; exact List.mem_singleton.mpr rfl)]
        | a :: b :: r =>
          rw [hl] at hn
          have ha := (hm a).mp (by rw [hl]; exact List.mem_cons_self)
          have hb := (hm b).mp (by rw [hl]; exact List.mem_cons_of_mem _ List.mem_cons_self)
          exact absurd (show a ∈ b :: r by rw [ha, hb]; exact List.mem_cons_self) (List.nodup_cons.mp hn).1
      exact h1.symm
    | succ k => exact ⟨_, rfl⟩
  have grow : ∀ k, B (k + 1) = B k ∨ (B k).length + 1 ≤ (B (k + 1)).length := fun k => by
    obtain ⟨f, hf⟩ := hsel k
    by_cases hl : (B (k + 1)).length = (B k).length
    · left
      have e : B (k + 1) = widN n ps (B k) := rfl
      rw [e, hf] at hl ⊢
      exact wid_full hne hl
    · right
      obtain ⟨g, hg⟩ := hsel (k + 1)
      have sub : ∀ z ∈ B k, z ∈ B (k + 1) := fun z hz => by
        obtain ⟨z1, z2⟩ := (hB k z).mp hz
        exact (hB (k + 1) z).mpr ⟨z1, z2.up hne z1⟩
      have e : B k = (B (k + 1)).filter fun z => memB (B k) z := by
        have : allN n (B k) = B k := by rw [hf]; exact all_sel
        rw [← this, hg]
        unfold allN selN
        rw [List.filter_filter]
        refine List.filter_congr fun z hz => ?_
        have hz1 := aln_mem.mp hz
        cases hm : memB (B k) z
        · rw [show memB (List.filter (memB (B k)) (alone n)) z = false from ?_]
          · rfl
          · rw [Bool.eq_false_iff, Ne, memB_iff, List.mem_filter]
            rintro ⟨_, h2⟩
            rw [hm] at h2
            cases h2
        · have h1 : z ∈ B k := memB_iff.mp hm
          have h2 : g z = true := by
            have := sub z h1
            rw [hg] at this
            exact (sel_mem.mp this).2
          rw [h2, Bool.and_true]
          exact (memB_iff.mpr (List.mem_filter.mpr ⟨hz, hm⟩)).symm
      have := List.length_filter_le (fun z => memB (B k) z) (B (k + 1))
      rw [← e] at this
      omega
  have stay : ∀ k, B (k + 1) = B k → ∀ i, B (k + i) = B k := fun k e i => by
    induction i with
    | zero => rfl
    | succ i ih =>
      show widN n ps (B (k + i)) = B k
      rw [ih]
      exact e
  have key : ∀ k, (∃ i, i < k ∧ B (i + 1) = B i) ∨ k + 1 ≤ (B k).length := fun k => by
    induction k with
    | zero =>
      right
      have : x ∈ B 0 := (hB 0 x).mpr ⟨hx, rfl⟩
      have := List.length_pos_of_mem this
      omega
    | succ k ih =>
      rcases ih with ⟨i, h1, h2⟩ | ih
      · exact .inl ⟨i, by omega, h2⟩
      · rcases grow k with g | g
        · exact .inl ⟨k, by omega, g⟩
        · exact .inr (by omega)
  have hBn : (B n).length ≤ n := by
    obtain ⟨f, hf⟩ := hsel n
    rw [hf]
    exact sel_len n f
  rcases key n with ⟨i, h1, h2⟩ | k1
  · have e1 := stay i h2 (n - i)
    have e2 := stay i h2 (j - i)
    rw [show i + (n - i) = n by omega] at e1
    rw [show i + (j - i) = j by omega] at e2
    have : y ∈ B j := (hB j y).mpr ⟨hy, h⟩
    rw [e2, ← e1] at this
    exact ((hB n y).mp this).2
  · omega
end
/-! ### rounds of steps, with the row of what is how far -/
def faI (fs : List Int) (y : Nat) : Int := fs.getD (y - 1) (-1)
theorem faI_set {fs : List Int} {y z : Nat} {k : Int} (h1 : 1 ≤ y) (h2 : y ≤ fs.length) (h3 : 1 ≤ z) : faI (fs.set (y - 1) k) z = if z = y then k else faI fs z := by
  unfold faI
  rw [List.getD_eq_getElem?_getD, List.getD_eq_getElem?_getD, List.getElem?_set]
  by_cases h : z = y
  · subst h
    rw [if_pos rfl, if_pos (by omega), if_pos rfl]
    rfl
  · rw [if_neg (by omega), if_neg h]
structure Mk (n : Nat) (k : Int) (f0 : List Int) (S : Nat → Prop) (fs : List Int) (fr : List Nat) : Prop where
  len : fs.length = n
  old : ∀ y, 1 ≤ y → y ≤ n → 0 ≤ faI f0 y → faI fs y = faI f0 y
  new : ∀ y, 1 ≤ y → y ≤ n → faI f0 y < 0 → S y → faI fs y = k
  non : ∀ y, 1 ≤ y → y ≤ n → faI f0 y < 0 → ¬ S y → faI fs y < 0
  mem : ∀ y, y ∈ fr ↔ (1 ≤ y ∧ y ≤ n) ∧ faI f0 y < 0 ∧ S y
  nd : fr.Nodup
theorem Mk.congr {n : Nat} {k : Int} {f0 fs : List Int} {S S2 : Nat → Prop} {fr : List Nat} (h : Mk n k f0 S fs fr) (e : ∀ y, 1 ≤ y → y ≤ n → (S y ↔ S2 y)) : Mk n k f0 S2 fs fr :=
  ⟨h.len, h.old, fun y h1 h2 h3 h4 => h.new y h1 h2 h3 ((e y h1 h2).mpr h4), fun y h1 h2 h3 h4 => h.non y h1 h2 h3 (fun z => h4 ((e y h1 h2).mp z)), fun y => by
    rw [h.mem y]
    exact ⟨fun ⟨a, b, c⟩ => ⟨a, b, (e y a.1 a.2).mp c⟩, fun ⟨a, b, c⟩ => ⟨a, b, (e y a.1 a.2).mpr c⟩⟩, h.nd⟩
theorem Mk.start {n : Nat} {k : Int} {f0 : List Int} (h : f0.length = n) : Mk n k f0 (fun _ => False) f0 [] :=
  ⟨h, fun _ _ _ _ => rfl, fun _ _ _ _ z => z.elim, fun _ _ _ h _ => h, fun y => ⟨(fun z => nomatch z), fun z => z.2.2.elim⟩, List.nodup_nil⟩
theorem Mk.step {n : Nat} {k : Int} {f0 fs : List Int} {S : Nat → Prop} {fr : List Nat} (h : Mk n k f0 S fs fr) {y : Nat} (h1 : 1 ≤ y) (h2 : y ≤ n) (hk : 0 ≤ k) (hf : faI fs y < 0) : Mk n k f0 (fun z => S z ∨ z = y) (fs.set (y - 1) k) (fr ++ [y]) := by
  have hs : ∀ {z}, 1 ≤ z → faI (fs.set (y - 1) k) z = if z = y then k else faI fs z := fun h3 => faI_set h1 (by rw [h.len]; exact h2) h3
  have h0 : faI f0 y < 0 := by
    refine Int.not_le.mp fun z => ?_
    rw [h.old y h1 h2 z] at hf
    omega
  have hS : ¬ S y := fun z => by
    rw [h.new y h1 h2 h0 z] at hf
    omega
  refine ⟨by rw [List.length_set]; exact h.len, fun z z1 z2 z3 => ?_, fun z z1 z2 z3 z4 => ?_, fun z z1 z2 z3 z4 => ?_, fun z => ?_, ?_⟩
  · rw [hs z1, if_neg fun e => by rw [e] at z3; omega]
    exact h.old z z1 z2 z3
  · rw [hs z1]
    by_cases e : z = y
    · rw [if_pos e]
    · rw [if_neg e]
      exact h.new z z1 z2 z3 (z4.resolve_right e)
  · rw [hs z1, if_neg fun e => z4 (.inr e)]
    exact h.non z z1 z2 z3 fun e => z4 (.inl e)
  · rw [List.mem_append, h.mem z, List.mem_singleton]
    constructor
    · rintro (⟨a, b, c⟩ | rfl)
      · exact ⟨a, b, .inl c⟩
      · exact ⟨⟨h1, h2⟩, h0, .inr rfl⟩
    · rintro ⟨a, b, c | rfl⟩
      · exact .inl ⟨a, b, c⟩
      · exact .inr rfl
  · rw [List.nodup_append]
    refine ⟨h.nd, List.nodup_cons.mpr ⟨List.not_mem_nil, List.nodup_nil⟩, fun a ha b hb e => ?_⟩
    rw [List.mem_singleton.mp hb] at e
    rw [e] at ha
    exact hS ((h.mem y).mp ha).2.2
theorem Mk.few {n : Nat} {k : Int} {f0 fs : List Int} {S : Nat → Prop} {fr : List Nat} (h : Mk n k f0 S fs fr) : fr.length ≤ n := by
  have e : fr.length ≤ (alone n).length := nodup_le h.nd fun y hy => aln_mem.mpr ((h.mem y).mp hy).1
  rw [alone_len] at e
  exact e
structure Far (n : Nat) (ps : List (List Nat)) (u : Nat) (k : Nat) (fs : List Int) (es : List Nat) : Prop where
  len : fs.length = n
  rch : ∀ y, 1 ≤ y → y ≤ n → ∀ j, j ≤ k → ((0 ≤ faI fs y ∧ faI fs y ≤ (j : Int)) ↔ Rch n ps j u y)
  top : ∀ y, 1 ≤ y → y ≤ n → faI fs y ≤ (k : Int)
  edg : ∀ y, y ∈ es ↔ (1 ≤ y ∧ y ≤ n) ∧ faI fs y = (k : Int)
  few : es.length ≤ n
theorem Far.start {n : Nat} {ps : List (List Nat)} {u : Nat} (hu : 1 ≤ u ∧ u ≤ n) : Far n ps u 0 ((List.replicate n (-1)).set (u - 1) 0) [u] := by
  have hf : ∀ y, 1 ≤ y → y ≤ n → faI ((List.replicate n (-1 : Int)).set (u - 1) 0) y = if y = u then 0 else -1 := fun y h1 h2 => by
    rw [faI_set hu.1 (by rw [List.length_replicate]; exact hu.2) h1]
    by_cases e : y = u
    · rw [if_pos e, if_pos e]
    · rw [if_neg e, if_neg e]
      unfold faI
      rw [List.getD_eq_getElem?_getD, List.getElem?_replicate, if_pos (by omega)]
      rfl
  refine ⟨by rw [List.length_set, List.length_replicate], fun y h1 h2 j hj => ?_, fun y h1 h2 => ?_, fun y => ?_, by show 1 ≤ n; omega⟩
  · obtain rfl : j = 0 := by omega
    rw [hf y h1 h2]
    show _ ↔ u = y
    by_cases e : y = u
    · rw [if_pos e]
      exact ⟨fun _ => e.symm, fun _ => ⟨Int.le_refl _, Int.le_refl _⟩⟩
    · rw [if_neg e]
      exact ⟨fun z => absurd z.1 (by decide), fun z => absurd z.symm e⟩
  · rw [hf y h1 h2]
    by_cases e : y = u
    · rw [if_pos e]; exact Int.le_refl _
    · rw [if_neg e]; show (-1 : Int) ≤ 0; decide
  · rw [List.mem_singleton]
    constructor
    · rintro rfl
      exact ⟨hu, by rw [hf y hu.1 hu.2, if_pos rfl]; rfl⟩
    · rintro ⟨h1, h2⟩
      rw [hf y h1.1 h1.2] at h2
      refine Decidable.byContradiction fun e => ?_
      rw [if_neg e] at h2
      exact absurd h2 (by decide)
theorem Far.next {n : Nat} {ps : List (List Nat)} {u k : Nat} {fs fs2 : List Int} {es fr : List Nat} (hne : ps ≠ []) (h : Far n ps u k fs es) (m : Mk n ((k + 1 : Nat) : Int) fs (fun y => ∃ x ∈ es, Stp ps x y) fs2 fr) : Far n ps u (k + 1) fs2 fr := by
  have low : ∀ y, 1 ≤ y → y ≤ n → ¬ (0 ≤ faI fs y) → ¬ Rch n ps k u y := fun y h1 h2 h3 r => h3 ((h.rch y h1 h2 k (Nat.le_refl _)).mpr r).1
  have nxt : ∀ y, 1 ≤ y → y ≤ n → faI fs y < 0 → ((∃ x ∈ es, Stp ps x y) ↔ Rch n ps (k + 1) u y) := fun y h1 h2 h3 => by
    constructor
    · rintro ⟨x, hx, s⟩
      obtain ⟨x1, x2⟩ := (h.edg x).mp hx
      exact ⟨x, x1, (h.rch x x1.1 x1.2 k (Nat.le_refl _)).mp ⟨by omega, by omega⟩, s⟩
    · rintro ⟨x, x1, r, s⟩
      obtain ⟨a, b⟩ := (h.rch x x1.1 x1.2 k (Nat.le_refl _)).mpr r
      refine ⟨x, (h.edg x).mpr ⟨x1, ?_⟩, s⟩
      refine Decidable.byContradiction fun hc => ?_
      -- x was reached before
      have hk : 1 ≤ k := by omega
      have r2 := (h.rch x x1.1 x1.2 (k - 1) (by omega)).mp ⟨a, by omega⟩
      have r3 : Rch n ps (k - 1 + 1) u y := ⟨x, x1, r2, s⟩
      rw [show k - 1 + 1 = k by omega] at r3
      exact low y h1 h2 (by omega) r3
  refine ⟨m.len, fun y h1 h2 j hj => ?_, fun y h1 h2 => ?_, fun y => ?_, m.few⟩
  · by_cases h0 : 0 ≤ faI fs y
    · rw [m.old y h1 h2 h0]
      by_cases hjk : j ≤ k
      · exact h.rch y h1 h2 j hjk
      · obtain rfl : j = k + 1 := by omega
        have := h.top y h1 h2
        exact ⟨fun _ => ((h.rch y h1 h2 k (Nat.le_refl _)).mp ⟨h0, this⟩).up hne ⟨h1, h2⟩, fun _ => ⟨h0, by omega⟩⟩
    · have h0' : faI fs y < 0 := by omega
      have e := nxt y h1 h2 h0'
      by_cases hS : ∃ x ∈ es, Stp ps x y
      · rw [m.new y h1 h2 h0' hS]
        have r := e.mp hS
        by_cases hjk : j ≤ k
        · exact ⟨fun z => by omega, fun z => absurd (z.mono hne ⟨h1, h2⟩ hjk) (low y h1 h2 h0)⟩
        · obtain rfl : j = k + 1 := by omega
          exact ⟨fun _ => r, fun _ => ⟨by omega, by omega⟩⟩
      · have := m.non y h1 h2 h0' hS
        exact ⟨fun z => by omega, fun z => absurd (e.mpr (z.mono hne ⟨h1, h2⟩ hj)) hS⟩
  · by_cases h0 : 0 ≤ faI fs y
    · rw [m.old y h1 h2 h0]
      have := h.top y h1 h2
      omega
    · by_cases hS : ∃ x ∈ es, Stp ps x y
      · rw [m.new y h1 h2 (by omega) hS]
        exact Int.le_refl _
      · have := m.non y h1 h2 (by omega) hS
        omega
  · rw [m.mem y]
    constructor
    · rintro ⟨a, b, c⟩
      exact ⟨a, m.new y a.1 a.2 b c⟩
    · rintro ⟨a, b⟩
      have h0 : faI fs y < 0 := by
        refine Int.not_le.mp fun z => ?_
        rw [m.old y a.1 a.2 z] at b
        have := h.top y a.1 a.2
        omega
      refine ⟨a, h0, ?_⟩
      by_cases hS : ∃ x ∈ es, Stp ps x y
      · exact hS
      · have := m.non y a.1 a.2 h0 hS
        omega
theorem Far.all {n : Nat} {ps : List (List Nat)} {u : Nat} {fs : List Int} {es : List Nat} (hne : ps ≠ []) (hu : 1 ≤ u ∧ u ≤ n) (h : Far n ps u n fs es) {y : Nat} (h1 : 1 ≤ y) (h2 : y ≤ n) (j : Nat) : (0 ≤ faI fs y ∧ faI fs y ≤ (j : Int)) ↔ Rch n ps j u y := by
  by_cases hj : j ≤ n
  · exact h.rch y h1 h2 j hj
  · have e := h.rch y h1 h2 n (Nat.le_refl _)
    have := h.top y h1 h2
    constructor
    · rintro ⟨a, b⟩
      exact (e.mp ⟨a, this⟩).mono hne ⟨h1, h2⟩ (by omega)
    · intro r
      exact ⟨(e.mpr (rch_bound hne hu ⟨h1, h2⟩ r)).1, by omega⟩
theorem Far.each {n : Nat} {ps : List (List Nat)} {u : Nat} {fs : List Int} {es : List Nat} (hne : ps ≠ []) (hu : 1 ≤ u ∧ u ≤ n) (h : Far n ps u n fs es) (j : Nat) (sp : List Nat) : (selN n fun y => decide (0 ≤ faI fs y) && decide (faI fs y ≤ (j : Int)) && !memB sp y) = [] ↔ u ∈ kbeN n ps j sp := by
  rw [kbe_mem]
  have key : ∀ y, y ∈ (selN n fun y => decide (0 ≤ faI fs y) && decide (faI fs y ≤ (j : Int)) && !memB sp y) ↔ (1 ≤ y ∧ y ≤ n) ∧ Rch n ps j u y ∧ y ∉ sp := fun y => by
    rw [sel_mem]
    constructor
    · rintro ⟨a, b⟩
      simp only [Bool.and_eq_true, decide_eq_true_eq, Bool.not_eq_true', ← Bool.not_eq_true, memB_iff] at b
      exact ⟨a, (h.all hne hu a.1 a.2 j).mp b.1, b.2⟩
    · rintro ⟨a, r, b⟩
      refine ⟨a, ?_⟩
      have := (h.all hne hu a.1 a.2 j).mpr r
      simp only [Bool.and_eq_true, decide_eq_true_eq, Bool.not_eq_true', ← Bool.not_eq_true, memB_iff]
      exact ⟨this, b⟩
  constructor
  · intro e
    refine ⟨hu, fun y y1 y2 r => Decidable.byContradiction fun z => ?_⟩
    have := (key y).mpr ⟨⟨y1, y2⟩, r, z⟩
    rw [e] at this
    cases this
  · rintro ⟨_, g⟩
    refine List.eq_nil_iff_forall_not_mem.mpr fun y hy => ?_
    obtain ⟨a, r, b⟩ := (key y).mp hy
    exact b (g y a.1 a.2 r)
end Eyes

set_option Elab.async false
set_option linter.all false
set_option maxRecDepth 100000
set_option maxHeartbeats 8000000
/-! set(xs), xs numbers in a list or a tuple, kept or sorted at once; how many it has at most. -/
namespace Eyes
open PySem PySem.Spec PyProof.Rows L2
def rSetI (K : PySem.W.Frag) (w : World) : List V → Hp → VK → Prop := fun vs H Q => ∃ (a : Addr) (xs : List Int), vs = [V.ref a] ∧ SqLT K H a (xs.map V.int) ∧ xs.length ≤ 4000 ∧
  ∀ (p : Addr) (c : Nat), c ≤ xs.length → (∀ L : List Int, (∀ k ∈ xs, k ∈ L) → c ≤ L.length) → H p = none → Q (.ref p) (upd H p (SetO w p (fun j => decide (j ∈ xs)) c))
section
variable {X : Cx}
variable {K : PySem.W.Frag} {w : World}
end
end Eyes

set_option Elab.async false
set_option linter.all false
set_option maxRecDepth 100000
set_option maxHeartbeats 4000000
/-! Events: spread, others. -/
namespace Eyes
open PySem PySem.Spec PyProof.Rows L2 Evl TL
def spSpread (K : PySem.W.Frag) : Sp := fun vs H Q _ => ∃ (a b : Addr) (n : Nat) (p cs : List Nat), vs = [.ref a, .ref b] ∧ n ≤ 2400 ∧ IsP n p ∧ SqT K H a (nvs p) ∧ SqLT K H b (nvs cs) ∧ cs.length ≤ 4000 ∧ (∀ c ∈ cs, 1 ≤ c ∧ c ≤ n) ∧ ∀ r H', Ex H H' → H r = none → H' r = some (.tup (nvs (sprN n p cs))) → Q (.ref r) H'
def spOthers (K : PySem.W.Frag) (CW : Addr) : Sp := fun vs H Q _ => ∃ (v : V) (b : Addr) (n : Nat) (f : Vw) (cs : List Nat), vs = [v, .ref b] ∧ n ≤ 2400 ∧ WorldAt CW H v n f ∧ SqLT K H b (nvs cs) ∧ cs.length ≤ 4000 ∧ ∀ r H', Ex H H' → H r = none → H' r = some (.tup (nvs (othN n cs))) → Q (.ref r) H'
section
variable {P : Program} {w : World} {K : PySem.W.Frag} {mg : Str → Option Value} {base : Heap} {AA : Adr}
end
end Eyes

set_option Elab.async false
set_option linter.all false
set_option maxRecDepth 100000
set_option maxHeartbeats 4000000
/-! Cases that are checked: an event of any things. -/
namespace Eyes
open PySem PySem.Spec PyProof.Rows L2 Evl TL
abbrev ERow := V × PyData
def badE (n : Nat) (rows : List ERow) : Option V := (rows.find? fun r => !numD r.2 1 (n : Int)).map (·.1)
def rowsN (cs : List Nat) : List ERow := cs.map fun c : Nat => (V.int (c : Int), PyData.int (c : Int))
theorem rowsN_vs {cs : List Nat} : (rowsN cs).map (·.1) = nvs cs := by
  unfold rowsN nvs
  rw [List.map_map]
  rfl
theorem rowsN_rep {H : Hp} {cs : List Nat} : ∀ r ∈ rowsN cs, Rep H r.1 r.2 := fun r hr => by
  obtain ⟨c, _, rfl⟩ := List.mem_map.mp hr
  exact .int _
theorem rowsN_good {n : Nat} {cs : List Nat} (h : ∀ c ∈ cs, 1 ≤ c ∧ c ≤ n) : badE n (rowsN cs) = none := by
  unfold badE
  rw [Option.map_eq_none_iff, List.find?_eq_none]
  intro r hr
  obtain ⟨c, hc, rfl⟩ := List.mem_map.mp hr
  have h2 : numD (.int (c : Int)) 1 (n : Int) = true := num_in (h c hc).1 (h c hc).2
  rw [h2]
  decide
def EvX (AA : Adr) (K : PySem.W.Frag) (n : Nat) (a : Addr) (H : Hp) (E : XK) (good : List Nat → Prop) : Prop := ∃ rows : List ERow, SqLT K H a (rows.map (·.1)) ∧ (∀ r ∈ rows, Rep H r.1 r.2) ∧ rows.length ≤ 1000 ∧
  (∀ cs, badE n rows = none → rows.map (·.1) = nvs cs → (∀ c ∈ cs, 1 ≤ c ∧ c ≤ n) → good cs) ∧
  ∀ z, badE n rows = some z → ∀ d H', H d = none → Ex H H' → H' d = some (.xd [("value", z)]) → E (.ref AA.InvalidCase) (some d) H'
theorem nvs_inj {l m : List Nat} (h : nvs l = nvs m) : l = m := by
  unfold nvs at h
  exact List.map_inj_right (fun x y e => Int.ofNat.inj (V.int.inj e)) |>.mp h
theorem EvX.of {AA : Adr} {K : PySem.W.Frag} {n : Nat} {a : Addr} {H : Hp} {E : XK} {good : List Nat → Prop} {cs : List Nat} (ha : SqLT K H a (nvs cs)) (hl : cs.length ≤ 1000) (hcs : ∀ c ∈ cs, 1 ≤ c ∧ c ≤ n) (g : good cs) : EvX AA K n a H E good := by
  refine ⟨rowsN cs, by rw [rowsN_vs]; exact ha, rowsN_rep, by unfold rowsN; rw [List.length_map]; exact hl, fun ds _ e _ => ?_, fun z hz => ?_⟩
  · rw [rowsN_vs] at e
    rw [← nvs_inj e]
    exact g
  · rw [rowsN_good hcs] at hz
    cases hz
def spCheckX (AA : Adr) (K : PySem.W.Frag) : Sp := fun vs H Q E => ∃ (a : Addr) (n : Nat), vs = [.int (n : Int), .ref a] ∧ EvX AA K n a H E fun cs => SqLT K H a (nvs cs) → cs.length ≤ 1000 → ∀ H', Ex H H' → Q .non H'
section
variable {P : Program} {w : World} {K : PySem.W.Frag} {mg : Str → Option Value} {base : Heap} {AA : Adr}
end
end Eyes

set_option Elab.async false
set_option linter.all false
set_option maxRecDepth 100000
set_option maxHeartbeats 4000000
/-! Worlds: tied, exchanged, parted. -/
namespace Eyes
open PySem PySem.Spec PyProof.Rows L2 Evl TL
structure VwPre (n : Nat) (f : Vw) : Prop where
  n1 : 1 ≤ n
  n2 : n ≤ 2400
  nd : (f.map (·.1)).Nodup
  nm : ∀ e ∈ f, e.1.length ≤ 1000
  isP : ∀ t, IsP n (gP n f t)
section
variable {n : Nat} {f : Vw} {ys zs : List Str} {x : Str} {p : List Nat}
theorem VwOk.pre (h : VwOk n f ys) : VwPre n f := ⟨h.n1, h.n2, h.nd, h.nm, h.isP⟩
theorem VwPre.ok (h : VwPre n f) (hl : f.length < 64) (hp : ys.Perm (f.map (·.1))) (hs : sortedS ys = true) : VwOk n f ys := ⟨h.n1, h.n2, hl, h.nd, h.nm, h.isP, hp, hs⟩
theorem VwOk.seen (h : VwOk n f ys) : VwPre n (seenV n f ys) := ⟨h.n1, h.n2, seenV_nodup (h.pm.nodup_iff.mpr h.nd), fun e he => by
    have h1 := seenV_sub (n := n) h.pm (List.mem_map.mpr ⟨e, he, rfl⟩)
    obtain ⟨z, hz, e2⟩ := List.mem_map.mp h1
    rw [← e2]
    exact h.nm z hz, fun t => by
    rw [seen_gP h.pm]
    exact h.isP t⟩
theorem VwPre.put (h : VwPre n f) (hx : x.length ≤ 1000) (hp : IsP n p) : VwPre n (wPut f x p) := ⟨h.n1, h.n2, wPut_nodup h.nd, fun e he => by
    have h1 : e.1 ∈ (wPut f x p).map (·.1) := List.mem_map.mpr ⟨e, he, rfl⟩
    rw [wPut_names] at h1
    have fin : ∀ t, t ∈ f.map (·.1) → t.length ≤ 1000 := fun t ht => by
      obtain ⟨z, hz, e2⟩ := List.mem_map.mp ht
      rw [← e2]
      exact h.nm z hz
    split at h1
    · exact fin _ h1
    · rcases List.mem_append.mp h1 with h1 | h1
      · exact fin _ h1
      · rw [List.mem_singleton.mp h1]
        exact hx, fun t => by
    rw [gP_put]
    split
    · exact hp
    · exact h.isP t⟩
end
theorem merge_new : ∀ (kvs acc : List (L2.Key × V)), ((acc ++ kvs).map (·.1)).Nodup → mergeK acc kvs = acc ++ kvs
  | [], acc, _ => by
    rw [List.append_nil]
    rfl
  | kv :: kvs, acc, h => by
    have hn : valV acc kv.1 = none := by
      unfold valV
      rw [Option.map_eq_none_iff, List.find?_eq_none]
      intro z hz hd
      rw [List.map_append, List.map_cons, List.nodup_append] at h
      exact h.2.2 z.1 (List.mem_map.mpr ⟨z, hz, rfl⟩) kv.1 List.mem_cons_self (of_decide_eq_true hd)
    show mergeK (putK acc kv.1 kv.2) kvs = _
    rw [putK_new _ hn, merge_new kvs (acc ++ [(kv.1, kv.2)]) (by rw [List.append_assoc]; exact h), List.append_assoc]
    rfl
theorem vK_keys {W : List VRow} {f : Vw} (h : vW W = f) : (vK W).map (·.1) = (f.map (·.1)).map Sum.inr := by
  rw [← h]
  unfold vK vW
  rw [List.map_map, List.map_map, List.map_map]
  rfl
theorem vK_merge {W : List VRow} {f : Vw} (h : vW W = f) (hn : (f.map (·.1)).Nodup) : mergeK [] (vK W) = vK W := by
  rw [merge_new, List.nil_append]
  rw [List.nil_append, vK_keys h]
  exact List.Pairwise.map _ (fun a b h z => h (Sum.inr.inj z)) hn
def WIs (C : Addr) (H : Hp) (v : V) (n m : Nat) (F : Str → List Nat) : Prop := ∃ f ys, WorldAt C H v n (seenV n f ys) ∧ VwOk n f ys ∧ f.length ≤ m ∧ ∀ t, gP n f t = F t
theorem WIs.mono {C : Addr} {H H' : Hp} {v : V} {n m : Nat} {F : Str → List Nat} (h : WIs C H v n m F) (e : Ex H H') : WIs C H' v n m F := by
  obtain ⟨f, ys, h1, h2⟩ := h
  exact ⟨f, ys, h1.mono e, h2⟩
def spChkN (K : PySem.W.Frag) : Sp := fun vs H Q _ => ∃ (a : Addr) (ts : List Str), vs = [.ref a] ∧ SqLT K H a (ts.map V.str) ∧ (∀ t ∈ ts, nm t) ∧ ∀ H', Ex H H' → Q .non H'
def spTiedW (C : Addr) : Sp := fun vs H Q _ => ∃ (v : V) (x : Str) (a b n m : Nat) (F : Str → List Nat), vs = [v, .str x, .int (a : Int), .int (b : Int)] ∧ WIs C H v n m F ∧ nm x ∧ m + 1 < 64 ∧ (1 ≤ a ∧ a ≤ n) ∧ (1 ≤ b ∧ b ≤ n) ∧
  ∀ u H', Ex H H' → WIs C H' u n (m + 1) (fun t => if t = x then mrg1 (F x) a b else F t) → Q u H'
def spExchW (C : Addr) : Sp := fun vs H Q _ => ∃ (v : V) (x y : Str) (n m : Nat) (F : Str → List Nat), vs = [v, .str x, .str y] ∧ WIs C H v n m F ∧ nm x ∧ nm y ∧ m + 2 < 64 ∧
  ∀ u H', Ex H H' → WIs C H' u n (m + 2) (fun t => F (swp2 x y t)) → Q u H'
def spParted (C : Addr) : Sp := fun vs H Q _ => ∃ (l : Addr) (n : Nat) (f : Vw), vs = [.int (n : Int), .ref l] ∧ VwAt H l n f ∧ VwPre n f ∧ (∀ t ∈ f.map (·.1), Eyes.nm t) ∧ f.length < 64 ∧
  ∀ u H', Ex H H' → WIs C H' u n f.length (gP n f) → Q u H'
section
variable {P : Program} {w : World} {K : PySem.W.Frag} {mg : Str → Option Value} {base : Heap} {AA : Adr}
theorem ok_check_names (T : Txt K mg AA) : Pr P w K mg base "check_names" s_check_names p_check_names 3 (spChkN K) := by
  refine pr_mk T.f_check_names sc_check_names (fun vs H Q E h => ?_) (fun f cdv A outer s H vs Q E hr h => ?_)
  · obtain ⟨a, ts, rfl, _⟩ := h
    rfl
  · obtain ⟨a, ts, rfl, ha, hts, q⟩ := h
    refine ⟨_, (pss_one (ps_for PassesOwn.never rfl (pi_or (pi_list (pv 0)) (pi_tup (pv 0))) (pg_name (i := 1) sc_check_names.nd rfl (.inl rfl))
      (pss_one (ps_if (pt_not (pt_val (pcall (ok_is_name T) hr (pa_cons (pv 1) pa_nil))))
      pss_never
      pss_nil)))), ?_⟩
    refine lt_var rfl ha fun J GG hw hG => for_it hw (fun i σ H' => (∃ y2, σ = [some (.ref a), y2]) ∧ Ex H H') ⟨⟨none, rfl⟩, Ex.refl _⟩ (fun i σ H' _ hp => hG _ hp.2) (fun i v σ H' H2 hi hp hy => ?_) (fun σ H' hp => ?_)
    · obtain ⟨rfl, hv⟩ := hy
      obtain ⟨⟨y2, rfl⟩, e⟩ := hp
      rw [List.getElem?_map] at hv
      obtain ⟨t, ht, rfl⟩ := Option.map_eq_some_iff.mp hv
      have hn := hts t (List.mem_of_getElem? ht)
      refine ⟨_, rfl, .str t, .s t, rfl, ⟨rfl, nm_okS hn⟩, fun H1 e1 => ⟨_, rfl, ?_⟩⟩
      show if (!nameS t) = true then _ else _
      rw [nm_name hn]
      exact iteF ⟨⟨_, rfl⟩, e.trans e1⟩
    · exact q _ hp.2
theorem WIs.many {C : Addr} {H : Hp} {v : V} {n m : Nat} {F : Str → List Nat} (h : WIs C H v n m F) : 1 ≤ n ∧ n ≤ 2400 := by
  obtain ⟨f, ys, _, ok, _⟩ := h
  exact ⟨ok.n1, ok.n2⟩
theorem ok_World_tied (T : Txt K mg AA) : PrMF P w K mg base AA.World "tied" "World.tied" s_World_tied p_World_tied 9 (spTiedW AA.World) := by
  refine prmf_mk T.t_World_tied sc_World_tied (fun vs H Q E h => ?_) (fun f cdv A outer s H vs Q E hr h => ?_)
  · obtain ⟨v, x, a, b, n, m, F, rfl, _⟩ := h
    rfl
  · obtain ⟨v, x, a, b, n, m, F, rfl, ⟨f, ys, ⟨p, dx, D, rfl, hp, hV⟩, ok, hfm, hF⟩, hx, hm, ha, hb, q⟩ := h
    refine ⟨_, (pss_cons (ps_expr (pcall (ok_check_names T) hr (pa_cons (pe_tup (pa_cons (pv 1) pa_nil)) pa_nil)))
      (pss_cons (ps_expr (pcall (ok_check_cases T) hr (pa_cons (pe_fldK (K := K) rfl (pv 0) rfl) (pa_cons (pe_tup (pa_cons (pv 2) (pa_cons (pv 3) pa_nil))) pa_nil))))
      (pss_cons (ps_set (i := 4) sc_World_tied.nd rfl (.inl rfl) (pcall (ok_linked T) hr (pa_cons (pe_fldK (K := K) rfl (pv 0) rfl) (pa_cons (pe_lst (pa_cons (pe_tup (pa_cons (pv 2) (pa_cons (pv 3) pa_nil))) pa_nil)) pa_nil))))
      (pss_cons (ps_set (i := 5) sc_World_tied.nd rfl (.inl rfl) (pcall (ok_joined T) hr (pa_cons (pe_lst (pa_cons (pmeth T.c_World (ok_World_parting_named T) hr (pv 0) (pa_cons (pv 1) pa_nil)) (pa_cons (pv 4) pa_nil))) pa_nil)))
      (pss_one (ps_ret (pcall (ok_world_with T) hr (pa_cons (pe_fldK (K := K) rfl (pv 0) rfl) (pa_cons (pe_mrg1 (pe_fldK (K := K) rfl (pv 0) rfl) (pv 1) (pv 5)) pa_nil))))))))), ?_⟩
    have hn2 := ok.n2
    have hP : IsP n (gP n (seenV n f ys) x) := ok.seen.isP x
    have e0 : gP n (seenV n f ys) x = F x := by rw [seen_gP ok.pm, hF]
    refine ⟨_, rfl, by show 1 ≤ sizeLine; decide, fun t1 ht1 => ⟨t1, [x], rfl, .inr (st_of upd_same), fun t ht => by rw [List.mem_singleton.mp ht]; exact hx, fun H1 e1 => ?_⟩⟩
    have x1 := (Ex.new ht1).trans e1
    refine ⟨_, rfl, p, AA.World, dx, _, _, rfl, x1 _ _ hp, T.c_World, T.a_World_many, wf_many, _, rfl, _, rfl, by show 2 ≤ sizeLine; decide, fun t2 ht2 => ⟨t2, n, [a, b], rfl, upd_same, fun c hc => ?_, ?_⟩⟩
    · rcases List.mem_cons.mp hc with rfl | hc
      · exact ha
      · rw [List.mem_singleton.mp hc]
        exact hb
    have x2 := x1.trans (Ex.new (o := .tup (nvs [a, b])) ht2)
    show tSeq _ _ _ _ (upd H1 t2 (.tup (nvs [a, b])))
    generalize upd H1 t2 (.tup (nvs [a, b])) = H2 at x2 ⊢
    refine ⟨_, rfl, p, AA.World, dx, _, _, rfl, x2 _ _ hp, T.c_World, T.a_World_many, wf_many, _, rfl, _, rfl, by show 2 ≤ sizeLine; decide, fun t3 ht3 => ⟨by show 1 ≤ sizeLine; decide, fun l3 hl3 => ?_⟩⟩
    have e3 := (Ex.new (o := .tup [.int (a : Int), .int (b : Int)]) ht3).trans (Ex.new (o := .lst [.ref t3]) hl3)
    have ht3' := (Ex.new (o := .lst [.ref t3]) hl3) _ _ (upd_same (H := H2) (a := t3) (o := .tup [.int (a : Int), .int (b : Int)]))
    have hl3' := upd_same (H := upd H2 t3 (.tup [.int (a : Int), .int (b : Int)])) (a := l3) (o := .lst [.ref t3])
    have x3 := x2.trans e3
    generalize upd (upd H2 t3 (.tup [.int (a : Int), .int (b : Int)])) l3 (.lst [.ref t3]) = H3 at x3 ht3' hl3' ⊢
    refine ⟨n, l3, [.ref t3], [(a, b)], rfl, by omega, .inl (sq_of hl3'), ⟨rfl, fun i v hv => ?_⟩, fun xy hxy => ?_, fun r4 H4 e4 _ hr4 => ?_⟩
    · match i, hv with
      | 0, hv =>
        cases hv
        exact ⟨t3, (a, b), rfl, rfl, st_of ht3'⟩
    · rw [List.mem_singleton.mp hxy]
      exact ⟨ha, hb⟩
    have x4 := x3.trans e4
    refine ⟨_, rfl, p, dx, _, rfl, x4 _ _ hp, wf_no (by decide +kernel) (by decide +kernel), _, rfl, .ref p, n, _, x, rfl, by omega, ⟨p, dx, D, rfl, x4 _ _ hp, hV.mono x4⟩, fun r5 H5 e5 hr5 => ?_⟩
    have x5 := x4.trans e5
    refine ⟨_, rfl, by show 2 ≤ sizeLine; decide, fun l6 hl6 => ?_⟩
    have x6 := x5.trans (Ex.new (o := .lst [.ref r5, .ref r4]) hl6)
    have hr5' := (Ex.new (o := .lst [.ref r5, .ref r4]) hl6) _ _ hr5
    have hr4' := (e5.trans (Ex.new (o := .lst [.ref r5, .ref r4]) hl6)) _ _ hr4
    have hl6' := upd_same (H := H5) (a := l6) (o := .lst [.ref r5, .ref r4])
    generalize upd H5 l6 (.lst [.ref r5, .ref r4]) = H6 at x6 hr5' hr4' hl6' ⊢
    have hQ : IsP n (mrgs (alone n) [(a, b)]) := isP_mrgs (isP_alone n) fun xy hxy => by rw [List.mem_singleton.mp hxy]; exact ⟨ha, hb⟩
    refine ⟨n, l6, _, [gP n (seenV n f ys) x, mrgs (alone n) [(a, b)]], rfl, by omega, by show 2 ≤ 200; decide, by show 0 < 2; decide, sq_of hl6', ⟨rfl, fun i u hu => ?_⟩, fun r7 H7 e7 _ hr7 => ?_⟩
    · match i, hu with
      | 0, hu =>
        cases hu
        exact ⟨r5, _, rfl, rfl, st_of hr5', hP⟩
      | 1, hu =>
        cases hu
        exact ⟨r4, _, rfl, rfl, st_of hr4', hQ⟩
    rw [tie_join hP ha hb] at hr7
    have x7 := x6.trans e7
    obtain ⟨W, w1, w2, w3⟩ := hV
    have hnd := ok.seen.nd
    have hlen : (vK W).length < 64 := by
      have h1 := seenV_len (n := n) ok.pm
      have h2 := ok.few
      have h3 : (vK W).length = (seenV n f ys).length := by
        rw [← w2]
        unfold vK vW
        rw [List.length_map, List.length_map]
      omega
    have hWl : (seenV n f ys).length ≤ m := Nat.le_trans (seenV_len ok.pm) hfm
    refine ⟨_, rfl, p, AA.World, dx, _, _, rfl, x7 _ _ hp, T.c_World, T.a_World_many, wf_many, fun pp hpp => ?_⟩
    have x8 := x7.trans (Ex.new (o := .dK []) hpp)
    refine ⟨_, rfl, p, AA.World, dx, _, _, rfl, x8 _ _ hp, T.c_World, T.a_World_partings, wf_part, upd_same, D, vK W, rfl, ?_, .inl (x8 _ _ w1), by omega, fun p2 hp2 hn2' => ?_⟩
    · exact fun z => by
        have := x7 _ _ w1
        rw [← z, hpp] at this
        cases this
    rw [vK_merge w2 hnd]
    refine ⟨_, rfl, _, rfl, upd_same, (upd_ne (Ne.symm hp2)).trans upd_same, .inr x, rfl, ?_⟩
    have hp2n : H7 p2 = none := by rwa [upd_ne hp2] at hn2'
    have x9 := (((((Ex.refl H7).mut (o := HO.dK []) hpp).mut (o := .dK (vK W)) hpp).mut (o := .dK []) hp2n).mut (o := .dK [(.inr x, .ref r7)]) hp2n).mut (o := .dK (putK (vK W) (.inr x) (.ref r7))) hpp
    have hM : IsP n (mrg1 (gP n (seenV n f ys) x) a b) := isP_mrg1 hP ha hb
    refine ⟨n, pp, wPut (seenV n f ys) x (mrg1 (gP n (seenV n f ys) x) a b), rfl, ok.n1, ok.n2, ⟨vPut W x r7 (mrg1 (gP n (seenV n f ys) x) a b), by rw [upd_same, vK_put], by rw [← vW_put, w2], ?_⟩, ?_, wPut_nodup hnd, fun u H10 zs e10 hzs hso hW => ?_⟩
    · exact vPut_all (Pp := fun a q => upd _ pp _ a = some (.tup (nvs q)) ∧ IsP n q) (fun e he => ⟨x9 _ _ (x7 _ _ (w3 e he).1), (w3 e he).2⟩) ⟨x9 _ _ hr7, hM⟩
    · have := wPut_len (f := seenV n f ys) (t := x) (p := mrg1 (gP n (seenV n f ys) x) a b)
      omega
    · have hl := wPut_len (f := seenV n f ys) (t := x) (p := mrg1 (gP n (seenV n f ys) x) a b)
      refine q u H10 (x7.trans (x9.trans e10)) ⟨_, zs, hW, (ok.seen.put (by have := hx.2.1; omega) hM).ok (by omega) hzs hso, by omega, fun t => ?_⟩
      rw [gP_put, seen_gP ok.pm, seen_gP ok.pm, hF, hF]
def spPartTo : Sp := fun vs H Q _ => ∃ (a : Addr) (p : List Nat) (n : Nat), vs = [.ref a, .int (n : Int)] ∧ H a = some (.tup (nvs p)) ∧ IsP n p ∧ 1 ≤ n ∧ n ≤ 4096 ∧ ∀ H', Ex H H' → Q (.bl true) H'
theorem ok_is_parting_to (T : Txt K mg AA) : Pr P w K mg base "is_parting_to" s_is_parting_to p_is_parting_to 4 spPartTo := by
  refine pr_mk T.f_is_parting_to sc_is_parting_to (fun vs H Q E h => ?_) (fun f cdv A outer s H vs Q E hr h => ?_)
  · obtain ⟨a, p, n, rfl, _⟩ := h
    rfl
  · obtain ⟨a, p, n, rfl, ha, hP, h1, hn, q⟩ := h
    refine ⟨_, (pss_one (ps_ret (pe_and (pcall (ok_is_parting T) hr (pa_cons (pv 0) pa_nil)) (pe_one (pe_cmpR op_eq (pe_callB (call_len_seqK (K := K) rfl) (by rfl) T.n_len PySem.boot_len (pa_cons (pv 0) pa_nil)) (pv 1) (nomark _)))))), ?_⟩
    refine ⟨_, rfl, .ref a, .tuple (ndats p), rfl, .tup ha (reps_ndats p), fun ds hds => ?_, fun H1 e1 => ?_⟩
    · cases hds
      refine ⟨?_, shaped_ndats⟩
      unfold ndats
      rw [List.length_map, hP.len]
      exact hn
    rw [partD_of hP h1]
    refine ⟨_, rfl, iteT ⟨_, rfl, a, nvs p, rfl, .inr (st_of (e1 _ _ ha)), _, rfl, rfl, ?_⟩⟩
    have e2 : decide (V.int ((nvs p).length : Int) = V.int (n : Int)) = true := decide_eq_true (by rw [nvs_len, hP.len])
    show Q (.bl (decide (V.int ((nvs p).length : Int) = V.int (n : Int)))) H1
    rw [e2]
    exact q _ e1
end
end Eyes

set_option Elab.async false
set_option linter.all false
set_option maxRecDepth 100000
set_option maxHeartbeats 4000000
/-! Worlds of given partings: what is new. -/
namespace Eyes
open PySem PySem.Spec PyProof.Rows L2 Evl TL
def spWithN (C : Addr) : Sp := fun vs H Q _ => ∃ (n : Nat) (l : Addr) (f : Vw), vs = [.int (n : Int), .ref l] ∧ 1 ≤ n ∧ n ≤ 2400 ∧ VwAt H l n f ∧ f.length < 64 ∧ (f.map (·.1)).Nodup ∧
  ∀ v H' ys, Ex H H' → ys.Perm (f.map (·.1)) → sortedS ys = true → (∃ p dx D, v = .ref p ∧ H p = none ∧ H D = none ∧ H' p = some (.ins C dx (wfl n D)) ∧ VwAt H' D n (seenV n f ys)) → Q v H'
def WIsN (C : Addr) (H0 H : Hp) (v : V) (n m : Nat) (F : Str → List Nat) : Prop := ∃ f ys p dx D, v = .ref p ∧ H0 p = none ∧ H0 D = none ∧ H p = some (.ins C dx (wfl n D)) ∧ VwAt H D n (seenV n f ys) ∧ VwOk n f ys ∧ f.length ≤ m ∧ ∀ t, gP n f t = F t
theorem WIsN.is {C : Addr} {H0 H : Hp} {v : V} {n m : Nat} {F : Str → List Nat} (h : WIsN C H0 H v n m F) : WIs C H v n m F := by
  obtain ⟨f, ys, p, dx, D, rfl, _, _, h3, h4, h5⟩ := h
  exact ⟨f, ys, ⟨p, dx, D, rfl, h3, h4⟩, h5⟩
theorem WIsN.mono {C : Addr} {H0 H H' : Hp} {v : V} {n m : Nat} {F : Str → List Nat} (h : WIsN C H0 H v n m F) (e : Ex H H') : WIsN C H0 H' v n m F := by
  obtain ⟨f, ys, p, dx, D, rfl, h1, h2, h3, h4, h5⟩ := h
  exact ⟨f, ys, p, dx, D, rfl, h1, h2, e _ _ h3, h4.mono e, h5⟩
theorem WIsN.back {C : Addr} {H0 G0 H : Hp} {v : V} {n m : Nat} {F : Str → List Nat} (h : WIsN C H0 H v n m F) (e : Ex G0 H0) : WIsN C G0 H v n m F := by
  obtain ⟨f, ys, p, dx, D, rfl, h1, h2, h3⟩ := h
  exact ⟨f, ys, p, dx, D, rfl, fresh_back e h1, fresh_back e h2, h3⟩
theorem WIsN.put {C : Addr} {H0 H : Hp} {v : V} {n m : Nat} {F : Str → List Nat} {T : Addr} {k1 k2 : List (L2.Key × V)} {o : HO} (h : WIsN C H0 H v n m F) (h0 : H0 T = some o) (hT : H T = some (.dK k1)) : WIsN C H0 (upd H T (.dK k2)) v n m F := by
  obtain ⟨f, ys, p, dx, D, rfl, h1, h2, h3, ⟨W, w1, w2, w3⟩, h5⟩ := h
  refine ⟨f, ys, p, dx, D, rfl, h1, h2, (upd_ne fun z => by rw [z, h0] at h1; cases h1).trans h3, ⟨W, (upd_ne fun z => by rw [z, h0] at h2; cases h2).trans w1, w2, fun e he => ⟨(upd_ne fun z => ?_).trans (w3 e he).1, (w3 e he).2⟩⟩, h5⟩
  have := (w3 e he).1
  rw [z, hT] at this
  cases this
def spPartedN (C : Addr) : Sp := fun vs H Q _ => ∃ (l : Addr) (n : Nat) (f : Vw), vs = [.int (n : Int), .ref l] ∧ VwAt H l n f ∧ VwPre n f ∧ (∀ t ∈ f.map (·.1), Eyes.nm t) ∧ f.length < 64 ∧
  ∀ u H', Ex H H' → WIsN C H H' u n f.length (gP n f) → Q u H'
section
variable {P : Program} {w : World} {K : PySem.W.Frag} {mg : Str → Option Value} {base : Heap} {AA : Adr}
theorem ok_world_withN (T : Txt K mg AA) : Pr P w K mg base "world_with" s_world_with p_world_with 7 (spWithN AA.World) := by
  refine pr_mk T.f_world_with sc_world_with (fun vs H Q E h => ?_) (fun f cdv A outer s H vs Q E hr h => ?_)
  · obtain ⟨n, l, f, rfl, _⟩ := h
    rfl
  · obtain ⟨n, l, f, rfl, h1, h2, hV, hfl, hnd, q⟩ := h
    refine ⟨_, (pss_cons (ps_set (i := 2) sc_world_with.nd rfl (.inl rfl) (pmake0 (K := K) rfl T.m_World (ok_World___init0 T) hr (pa_cons (pv 0) pa_nil)))
      (pss_cons (ps_fld (pv 2) (pcall (ok_counting T) hr (pa_cons (pv 0) (pa_cons (pv 1) pa_nil))) rfl)
      (pss_one (ps_ret (pv 2))))), ?_⟩
    intro d hd
    refine ⟨_, rfl, fun x dx hx hdx hxd => ?_⟩
    have eX : Ex H (upd (upd H dx (.own x)) x (.ins AA.World dx [])) := (Ex.new hdx).trans (Ex.new ((upd_ne (Ne.symm hxd)).trans hx))
    refine ⟨x, dx, d, n, [], [], H, rfl, hx, eX, upd_same, .inr (hd H), ⟨rfl, fun i u k h => by cases h⟩, by decide, fun k hk => (nomatch hk), h1, h2, fun H1 ys e1 hys hso hW => ⟨rfl, ?_⟩⟩
    obtain ⟨p, dx1, D1, hpx, hp, hV1⟩ := hW
    cases hpx
    refine ⟨_, rfl, _, rfl, n, l, f, rfl, by omega, hV.mono e1, hfl, hnd, fun D2 H2 ys2 e2 hD2 hys2 hso2 hV2 => ?_⟩
    have hx2 := e2 _ _ hp
    refine ⟨_, rfl, x, AA.World, dx1, _, rfl, hx2, T.c_World, T.a_World_partings, by show 2 < 1000; decide, ?_⟩
    rw [wfl_put]
    obtain ⟨W, g1, g2, g3⟩ := hV2
    have hne : D2 ≠ x := fun z => by
      rw [z, hx2] at g1
      cases g1
    refine ⟨_, rfl, q (.ref x) _ ys2 ((e1.trans e2).mut hx) hys2 hso2 ⟨x, dx1, D2, rfl, hx, fresh_back e1 hD2, upd_same, W, (upd_ne hne).trans g1, g2, fun e he => ⟨?_, (g3 e he).2⟩⟩⟩
    have g := (g3 e he).1
    rw [upd_ne fun z => by rw [z, hx2] at g; cases g]
    exact g
theorem ok_World_partedNF (T : Txt K mg AA) : PrStaF P w K mg base AA.World "parted" "World.parted" s_World_parted p_World_parted 9 (spPartedN AA.World) := by
  refine prstaF_mk T.u_World_parted sc_World_parted (fun vs H Q E h => ?_) (fun f cdv A outer s H vs Q E hr h => ?_)
  · obtain ⟨l, n, f, rfl, _⟩ := h
    rfl
  · obtain ⟨l, n, g, rfl, hV, pre, hnm, hl, q⟩ := h
    refine ⟨_, (pss_cons (ps_expr (pcall (ok_check_many T) hr (pa_cons (pv 0) pa_nil)))
      (pss_cons (ps_expr (pcall (ok_check_names T) hr (pa_cons (pe_callTy (call_list_dK rfl) (by rfl) T.n_list PyProof.Rows.boot_list (pa_cons (pv 1) pa_nil)) pa_nil)))
      (pss_cons (ps_lock (ps_for PassesOwn.never rfl (pi_values (pv 1)) (pg_name (i := 2) sc_World_parted.nd rfl (.inl rfl))
      (pss_one (ps_if (pt_not (pt_val (pcall (ok_is_parting_to T) hr (pa_cons (pv 2) (pa_cons (pv 0) pa_nil)))))
      pss_never
      pss_nil))))
      (pss_one (ps_ret (pcall (ok_world_withN T) hr (pa_cons (pv 0) (pa_cons (pv 1) pa_nil)))))))), ?_⟩
    have hn2 := pre.n2
    obtain ⟨W, w1, w2, w3⟩ := hV
    refine ⟨_, rfl, n, rfl, pre.n1, pre.n2, ?_⟩
    refine ⟨_, rfl, l, vK W, rfl, w1, fun L hL => ?_⟩
    have hNL : ((vK W).map fun kv => kV kv.1) = (g.map (·.1)).map V.str := by
      rw [← w2]
      unfold vK vW
      rw [List.map_map, List.map_map, List.map_map]
      rfl
    rw [hNL]
    refine ⟨L, g.map (·.1), rfl, .inl (sq_of upd_same), hnm, fun H1 e1 => ?_⟩
    have x1 := (Ex.new hL).trans e1
    have w1' := x1 _ _ w1
    refine ⟨l, _, w1', True.intro, fun od => ?_⟩
    have hfl := upd_same (H := H1) (a := l) (o := .frz od (.dK (vK W)))
    have hfW : ∀ e ∈ W, upd H1 l (.frz od (.dK (vK W))) e.2.1 = some (.tup (nvs e.2.2)) := fun e he => (upd_ne fun z => by
      have h1 := x1 _ _ (w3 e he).1
      rw [z, w1'] at h1
      cases h1).trans (x1 _ _ (w3 e he).1)
    have eHf : Ex H1 (upd (upd H1 l (.frz od (.dK (vK W)))) l (.dK (vK W))) := fun a u h => by
      by_cases ha : a = l
      · rw [ha] at h ⊢
        rw [upd_same, ← w1', h]
      · rw [upd_ne ha, upd_ne ha]
        exact h
    generalize upd H1 l (.frz od (.dK (vK W))) = Hf at hfl hfW eHf ⊢
    refine ⟨_, rfl, l, od, vK W, rfl, hfl, ?_⟩
    refine for_it (walk_values (kvs := vK W)) (fun i σ H' => (∃ y2, σ = [some (.int (n : Int)), some (.ref l), y2]) ∧ Ex Hf H') ⟨⟨none, rfl⟩, Ex.refl _⟩ (fun i σ H' _ hp => hp.2 _ _ hfl) (fun i v σ H2 H3 hi hp hy => ?_) (fun σ H' hp => ?_)
    · obtain ⟨⟨y2, rfl⟩, e2⟩ := hp
      obtain ⟨rfl, k, hk⟩ := hy
      unfold vK at hk
      rw [List.getElem?_map] at hk
      obtain ⟨e, he, hek⟩ := Option.map_eq_some_iff.mp hk
      have hem := List.mem_of_getElem? he
      cases hek
      exact ⟨_, rfl, _, rfl, e.2.1, e.2.2, n, rfl, e2 _ _ (hfW e hem), (w3 e hem).2, pre.n1, by omega, fun H4 e4 => ⟨_, rfl, iteF ⟨⟨_, rfl⟩, e2.trans e4⟩⟩⟩
    · obtain ⟨⟨y2, rfl⟩, e2⟩ := hp
      have xF := eHf.trans (ex_both e2)
      refine ⟨e2 _ _ hfl, _, rfl, _, rfl, n, l, g, rfl, pre.n1, pre.n2, ⟨W, upd_same, w2, fun e he => ⟨xF _ _ (x1 _ _ (w3 e he).1), (w3 e he).2⟩⟩, hl, pre.nd, fun u H4 zs e4 hzs hso hW => ?_⟩
      obtain ⟨p, dx, D, rfl, h1, h2, h3, h4⟩ := hW
      exact q _ H4 (x1.trans (xF.trans e4)) ⟨g, zs, p, dx, D, rfl, fresh_back (x1.trans xF) h1, fresh_back (x1.trans xF) h2, h3, h4, pre.ok hl hzs hso, Nat.le_refl _, fun t => rfl⟩
theorem ok_World_partedN (T : Txt K mg AA) : PrSta P w K mg base AA.World "parted" p_World_parted 9 (spPartedN AA.World) := @PrStaF.s P w K mg base AA.World "parted" "World.parted" s_World_parted p_World_parted 9 (spPartedN AA.World) (ok_World_partedNF (P := P) (w := w) (base := base) T)
end
end Eyes

set_option Elab.async false
set_option linter.all false
set_option maxRecDepth 100000
set_option maxHeartbeats 4000000
/-! == of two dicts whose values are data, equal or not; == of an own and a value of a builtin kind. -/
namespace Eyes
open PySem PySem.Spec PyProof.Rows L2
def FDatB (K : PySem.W.Frag) (H : Hp) (x y : V) (r : Bool) : Prop := ∃ d e, Dp K H x d ∧ Dp K H y e ∧ SeqAt.shaped d = true ∧ SeqAt.shaped e = true ∧ PyData.eqv d e = r
inductive HitsB (K : PySem.W.Frag) (H : Hp) (ls : List (Key × V)) : List (Key × V) → Bool → Prop
  | nil : HitsB K H ls [] true
  | miss {k : Key} {v : V} {r : List (Key × V)} : valV ls k = none → HitsB K H ls ((k, v) :: r) false
  | hit {k : Key} {v u : V} {r : List (Key × V)} {e b : Bool} : valV ls k = some u → FDatB K H v u e → HitsB K H ls r b → HitsB K H ls ((k, v) :: r) (e && b)
def rEqDB (K : PySem.W.Frag) : R2 := fun x y H Q => ∃ a b ks ls r, x = .ref a ∧ y = .ref b ∧ H a = some (.dK ks) ∧ H b = some (.dK ls) ∧ (ks.length = ls.length → HitsB K H ls ks r) ∧ Q (.bl (ks.length == ls.length && r)) H
theorem hitsB_run {X : Cx} {pins : List (Addr × Obj)} {σ : L2.St} {H : Hp} {s : Shared} (I : Inv X pins σ H s) {A : Around} (hu : A.units + 64 < cLine) {ks ls : List (Key × V)} {r : Bool} (h : HitsB X.K H ls ks r) :
    ∀ {va vb : List (Key × Value)}, KV ks va → KV ls vb → PySem.W.KeqHitsP X.prog X.w A s vb va r := by
  induction h with
  | nil =>
    intro va vb ra rb
    cases ra
    exact .nil
  | @miss k v r hn =>
    intro va vb ra rb
    cases ra with
    | cons rv rr =>
      obtain ⟨e1, e2⟩ := rv
      rename_i kv' _
      obtain ⟨k', v'⟩ := kv'
      obtain rfl : k = k' := e1
      refine .miss ?_
      have := rb.val k
      rw [hn] at this
      cases hb : valueAt vb k with
      | none => rfl
      | some y =>
        rw [hb] at this
        cases this
  | @hit k v u r e b hv hd _ ih =>
    intro va vb ra rb
    cases ra with
    | cons rv rr =>
      obtain ⟨e1, e2⟩ := rv
      rename_i kv' _
      obtain ⟨k', v'⟩ := kv'
      obtain rfl : k = k' := e1
      have e2 : RelV v v' := e2
      have := rb.val k
      rw [hv] at this
      cases hb : valueAt vb k with
      | none =>
        rw [hb] at this
        cases this
      | some y =>
        rw [hb] at this
        have ry : RelV u y := this
        refine .hit hb ?_ (ih rr rb)
        obtain ⟨d, e', hd1, hd2, sd, se, heq⟩ := hd
        obtain ⟨as, r1⟩ := Dp.reads I d v v' hd1 e2
        obtain ⟨bs, r2⟩ := Dp.reads I e' u y hd2 ry
        have := (SeqAt.eqAt_reads d e' A s v' y as bs r1 r2 (SeqAt.canLay_of_shaped sd) (SeqAt.canLay_of_shaped se) (SeqAt.room_of_shaped sd (by omega))).eqP (prog := X.prog) (w := X.w)
        rw [heq] at this
        exact this
theorem op_eqDB {X : Cx} (hu : X.A.units + 65 < cLine) : OpR X (compareOp .Eq) (rEqDB X.K) := by
  intro pins s σ H x y v u Q I rx ry h
  obtain ⟨a, b, ks, ls, r, rfl, rfl, ha, hb, hp, q⟩ := h
  cases (show v = Value.ref a from rx)
  cases (show u = Value.ref b from ry)
  obtain ⟨_, ya, va, ra, da⟩ := (show ObjOk X.prog X.w H s.heap a (.dK ks) from I.hok a _ ha)
  obtain ⟨_, yb, vb, rb, db⟩ := (show ObjOk X.prog X.w H s.heap b (.dK ls) from I.hok b _ hb)
  have l1 := ra.length
  have l2 := rb.length
  refine PySem.W.rcP_dicts (knd := mixKind X.prog X.w) (r := r) ya yb da db (by omega) (fun e => hitsB_run I (A := X.A.in1) (by show X.A.units + 1 + 64 < cLine; omega) (hp (by omega)) ra rb) _ _ ?_
  rw [← l1, ← l2]
  exact ⟨.bl _, H, I, rfl, q⟩
theorem op_eqDBK {X : Cx} {K : PySem.W.Frag} (hK : X.K = K) (hu : X.A.units + 65 < cLine) : OpR X (compareOp .Eq) (rEqDB K) := hK ▸ op_eqDB hu
def rEqOwnI (K : PySem.W.Frag) (C : Addr) (sp : Sp) : R2 := fun x y H Q => ∃ a dx fs i, x = .ref a ∧ H a = some (.ins C dx fs) ∧ y = .int i ∧ PySem.W.notFirst K C (.type "int") = true ∧ sp [.ref a, y] H Q (fun _ _ _ => False)
section
variable {X : Cx} {C : Addr} {j k : Nat} {ps : List Str} {sp : Sp}
theorem op_eqOwnI (G : PrM X.prog X.w X.K X.mg X.base C "__eq__" ps j sp) (hr : Room k X.A) (hj : j ≤ k := by first | decide | omega) : OpR X (compareOp .Eq) (rEqOwnI X.K C sp) := by
  intro pins s σ H x y v u Q I rx ry h
  obtain ⟨f, fd, M, hb, F⟩ := G
  obtain ⟨a, dx, fs, i, rfl, ha, rfl, hn, q⟩ := h
  cases rx
  obtain ⟨mA, J, _⟩ := ins_get I.hok ha
  obtain ⟨od, J, _⟩ := J.look
  obtain ⟨m, hF⟩ := I.fr
  have hrj := hr.mono hj
  obtain ⟨t, rfl⟩ := _root_.id ry
  refine PySem.W.cmp_ofEq (PySem.W.cmp_K hrj.units0 hF I.ok.mod.kin J (PySem.W.Looks.of_pure rfl) hn M.at_ M.fn ?_)
  exact run_at F hb (fun _ _ _ _ _ _ _ h => h.elim) hrj rfl I (vs := [.ref a, .int i]) (.cons rfl (.cons ry .nil)) q fun v u s' H' I' rv qv => cmpBack_of rv ⟨v, H', I', rv, qv⟩
theorem op_eqOwnC {P : Program} {w : World} {K : PySem.W.Frag} {mg : Str → Option Value} {base : Heap} (hP : X.prog = P) (hw : X.w = w) (hK : X.K = K) (hm : X.mg = mg) (hb : X.base = base) (G : PrM P w K mg base C "__eq__" ps j sp) (hr : Room k X.A) (hj : j ≤ k) : OpR X (compareOp .Eq) (rEqOwn K C sp) := by
  subst hP hw hK hm hb
  exact op_eqOwn G hr hj
end
end Eyes

set_option Elab.async false
set_option linter.all false
set_option maxRecDepth 100000
set_option maxHeartbeats 4000000
/-! x, *rest = a list. -/
namespace Eyes
open PySem PySem.Spec PyProof.Rows L2
section
variable {prog : Program} {w : World} {A : Around} {E : Value → Shared → Prop} {s : Shared}
theorem unpack_starL {l : Addr} {items : Array Value} {x : Value} {xs : List Value} {Q : List Value → Shared → Prop} (hl : s.heap.IsList l items) (hit : items.toList = x :: xs) (hh : A.handled = none) (hz : items.size ≤ 16384)
    (h : ∀ (h1 : Heap) tk, (∀ b o, s.heap.get? b = some o → h1.get? b = some o) → s.heap.get? h1.objs.size = none → Q [x, .ref h1.objs.size] { s with heap := h1.push { cls := .type "list", data := .seq xs.toArray }, toks := tk }) : wpAny (model prog w) A (unpackItems (.ref l) 2 (some 1)) Q E s := by
  have hsz : items.size = xs.length + 1 := by rw [← Array.length_toList, hit, List.length_cons]
  have hlt : l ≠ s.heap.objs.size := by obtain ⟨o, ho, _⟩ := hl; exact Nat.ne_of_lt (Heap.lt_size ho)
  unfold unpackItems
  refine wpAny_bind ?_
  unfold notIterableAtAll
  refine wpAny_bind (wpAny_specialOf hl.typeIs slot_list_iter.lookup ?_)
  refine wpAny_pure ?_
  simp only [Bool.false_eq_true, if_false]
  refine wpAny_bind (wpAny_holding (wpAny_pyIter_list hl ?_))
  refine wpAny_bind (wpAny_holding (PySem.W.kun_draw hlt 1 0 _ _ ⟨_, Heap.get?_push_size _ rfl, rfl, rfl⟩ (hl.push _) (by omega) fun h₁ hit₁ hs₁ => ?_))
  have hl₁ : h₁.IsList l items := (hl.push _).extBut hs₁.extBut hlt
  rw [Nat.zero_add] at hit₁
  have hit₁' := hit₁
  obtain ⟨oi, hoi, _⟩ := hit₁'
  have hl₁' := hl₁
  obtain ⟨ol, hol, _⟩ := hl₁'
  rw [List.drop_zero, show items.toList.take 1 = [x] by rw [hit]; rfl]
  rw [if_neg (show ¬ ([x].length < 1) from Nat.lt_irrefl 1)]
  refine wpAny_bind (wpAny_holding (PySem.W.kun_collect (s := { s with heap := h₁ }) (T := "list_iterator") (.inr (.inr (.inl rfl))) (Walks.list (A := A.in1) hh s.heap.objs.size l hlt items) (fun j u st => st.1.typeIs) (k := 1) (by omega) ⟨hit₁, hl₁⟩ (Heap.lt_size hoi) (Heap.lt_size hol) (fun h₂ tk hk => ?_) (by rw [sizeLine_eq]; omega)))
  rw [show items.toList.drop 1 = xs by rw [hit]; rfl]
  show wpAny _ _ (if xs.length < 2 - 1 - 1 then _ else _) _ _ _
  rw [if_neg (by omega)]
  show wpAny _ _ (newList (xs.take (xs.length - (2 - 1 - 1))) >>= fun d => pure ([x] ++ [d] ++ xs.drop (xs.length - (2 - 1 - 1)))) _ _ _
  rw [show xs.length - (2 - 1 - 1) = xs.length by omega, List.take_length, List.drop_length]
  have hk2 : ∀ b o, s.heap.get? b = some o → h₂.get? b = some o := fun b o e => by
    have hb := Heap.lt_size e
    exact hk b o (Nat.ne_of_lt hb) (hs₁.extBut b o (Nat.ne_of_lt hb) (Heap.get?_push_of_some _ e))
  have hle : s.heap.get? h₂.objs.size = none := by
    cases e : s.heap.get? h₂.objs.size with
    | none => rfl
    | some o => exact absurd (Heap.lt_size (hk2 _ _ e)) (Nat.lt_irrefl _)
  exact wpAny_bind (wpAny_newObj_type (wpAny_pure (h h₂ tk hk2 hle)))
end
def gStar (K : PySem.W.Frag) (t : TGs) : TG := fun v σ H Q => ∃ a x xs, v = .ref a ∧ SqL K H a (x :: xs) ∧ xs.length ≤ 16000 ∧ ∀ D, H D = none → t [x, .ref D] σ (upd H D (.lst xs)) Q
theorem pg_starL {X : Cx} {t0 t1 : Expr} {k : Nat} {t : TGs} {p pos : Pos} (hc : X.calm = true) (h : PGs X [t0, t1] t)
    (hn : (assignEach [t0, .Starred t1 p] X.env).length = 2 := by rfl) (hst : (assignEach [t0, .Starred t1 p] X.env).findIdx? (·.1) = some 1 := by rfl) (hm : (assignEach [t0, .Starred t1 p] X.env).map (·.2) = (assignEach [t0, t1] X.env).map (·.2) := by rfl) : PG X (.Tuple [t0, .Starred t1 p] k pos) (gStar X.K t) := by
  refine ⟨fun pins s σ H v u Q I r hw => ?_⟩
  obtain ⟨a, x, xs, e1, hq, hl, hw⟩ := hw
  subst e1
  cases r
  obtain ⟨its, rv, ht, hz⟩ := I.list hq
  rw [assign_Tuple]
  refine wpAny_bind (wpAny_standAt ?_)
  unfold unpack
  rw [hn, hst, hm]
  cases rv with
  | cons r0 rs =>
    have hlen := rs.length
    refine wpAny_bind (wpAny_holding (unpack_starL ht.isList rfl (I.ok.hd hc) (by simp; omega) fun h1 tk hk hn0 => ?_))
    have hD : H h1.objs.size = none := I.hok.gone hn0
    have I1 := I.laidN (t' := tk) (o := .lst xs) (fun b o e => Heap.get?_push_of_some { cls := .type "list", data := .seq _ } (hk b o e)) hn0 hD ⟨by rw [sizeLine_eq]; omega, _, 0, rs, Heap.get?_push_size _ rfl⟩
    exact h.run pins _ σ _ [x, .ref h1.objs.size] _ Q I1 (.cons r0 (.cons rfl .nil)) (hw _ hD)
end Eyes

set_option Elab.async false
set_option linter.all false
set_option maxRecDepth 100000
set_option maxHeartbeats 4000000
/-! Texts of worlds read: the number of cases, a row. -/
namespace Eyes
open PySem PySem.Spec PyProof.Rows L2 Evl TL
def casesS (m : Nat) : Str := Str.ofString "cases " ++ natS m
def idxS (kf : Nat → Str) : Nat → Str → Nat
  | 0, _ => 0
  | i + 1, t => if t = kf (i + 1) then i + 1 else idxS kf i t
def IdxD (H : Hp) (D : Addr) (kf : Nat → Str) (i : Nat) : Prop := ∃ kvs : List (L2.Key × V), H D = some (.dK kvs) ∧ kvs.length ≤ i ∧ ∀ t : Str, valV kvs (.inr t) = if idxS kf i t = 0 then none else some (V.int (idxS kf i t : Nat))
theorem IdxD.new {H : Hp} {D : Addr} {kf : Nat → Str} : IdxD (upd H D (.dK [])) D kf 0 := ⟨[], upd_same, Nat.le_refl _, fun _ => rfl⟩
theorem IdxD.mono {H H' : Hp} {D : Addr} {kf : Nat → Str} {i : Nat} (e : Ex H H') (h : IdxD H D kf i) : IdxD H' D kf i := by
  obtain ⟨kvs, h1, h2⟩ := h
  exact ⟨kvs, e _ _ h1, h2⟩
theorem IdxD.next {H : Hp} {D : Addr} {kf : Nat → Str} {i : Nat} {kvs : List (L2.Key × V)} (h2 : kvs.length ≤ i) (h3 : ∀ t : Str, valV kvs (.inr t) = if idxS kf i t = 0 then none else some (V.int (idxS kf i t : Nat))) : IdxD (upd H D (.dK (putK kvs (.inr (kf (i + 1))) (.int ((i + 1 : Nat) : Int))))) D kf (i + 1) := by
  refine ⟨_, upd_same, Nat.le_trans (length_putK ..) (by omega), fun t => ?_⟩
  rw [valV_put]
  show _ = if (if t = kf (i + 1) then i + 1 else idxS kf i t) = 0 then none else some (V.int ((if t = kf (i + 1) then i + 1 else idxS kf i t : Nat) : Int))
  by_cases e : t = kf (i + 1)
  · rw [if_pos (congrArg Sum.inr e), if_pos e, if_neg (Nat.succ_ne_zero i)]
  · rw [if_neg fun z => e (Sum.inr.inj z), if_neg e]
    exact h3 t
theorem IdxD.get {H : Hp} {D : Addr} {kf : Nat → Str} {i : Nat} (h : IdxD H D kf i) (t : Str) : IsD H D ∧ ∃ o, DGet H D (.str t) o ∧ o.getD (V.int 0) = V.int (idxS kf i t : Nat) := by
  obtain ⟨kvs, h1, h2, h3⟩ := h
  refine ⟨.inl ⟨_, .inl h1⟩, _, DGet.k (k := .inr t) h1, ?_⟩
  rw [h3 t]
  by_cases e : idxS kf i t = 0
  · rw [if_pos e, e]
    rfl
  · rw [if_neg e]
    rfl
def spReadMany : Sp := fun vs H Q _ => ∃ t : Str, vs = [.str t] ∧ ∀ H', Ex H H' → Q (.int (idxS casesS 2400 t : Nat)) H'
def spReadRow : Sp := fun vs H Q _ => ∃ (t : Str) (n : Nat), vs = [.str t, .int (n : Int)] ∧ n ≤ 2400 ∧ t.length ≤ 15000 ∧ ∀ x xs, Txt.split t (Str.ofString " ") = x :: xs → ∀ p r H', Ex H H' → H' p = some (.tup [.str x, .ref r]) → H' r = some (.tup (nvs (xs.map (idxS natS n)))) → Q (.ref p) H'
section
variable {P : Program} {w : World} {K : PySem.W.Frag} {mg : Str → Option Value} {base : Heap} {AA : Adr}
theorem ok_read_many (T : Txt K mg AA) : Pr P w K mg base "read_many" s_read_many p_read_many 3 spReadMany := by
  refine pr_mk T.f_read_many sc_read_many (fun vs H Q E h => ?_) (fun f cdv A outer s H vs Q E hr h => ?_)
  · obtain ⟨t, rfl, _⟩ := h
    rfl
  · obtain ⟨t, rfl, q⟩ := h
    refine ⟨_, (pss_one (ps_ret (pe_dget2 (hu_of hr) (pe_dc (own := [("many", 1)]) (g := gName 1) (tt := tYes) rfl sc_read_many.nd (pi_range2 (by rfl) T.n_range (pa_cons pe_int (pa_cons (pe_op op_add (ClX.pe_cval (pe_glob (v := .ref AA.World) (by rfl) T.m_World rfl)) pe_int) pa_nil))) (blkOk_by (own := [("many", 1)]) (N := n_read_many) (sc := defScope s_read_many) (by decide +kernel)) (fun _ _ _ _ _ => (pg_name (i := 1) sc_read_many.nd rfl (.inl rfl))) (fun _ _ _ _ _ => pts_nil) (fun _ _ _ _ _ => (pe_joined (PJ.cons pe_str (PJ.cons (pe_fmt (pv 1)) PJ.nil)))) (fun _ _ _ _ _ => (pv 1))) (pv 0) pe_int ⟨by rfl, by rfl, by rfl, by rfl⟩))), ?_⟩
    obtain ⟨tk, hcr, hcv⟩ := T.k_World_LIMIT
    have e1 : (Str.ofString "cases ").length = 6 := by decide +kernel
    have big : 16777216 ≤ sizeLine := by rw [sizeLine_eq]; decide
    refine ⟨AA.World, _, _, _, rfl, hcr, hcv, _, _, rfl, rfl, _, _, rfl, ⟨by decide, by decide, by decide, by decide⟩, fun D hD => ?_⟩
    rw [show ((2400 : Int) + 1 - 1).toNat = 2400 from rfl]
    refine dc_by (tk := fun σ H Q => tJs [tC (V.str (Str.ofString "cases ")), tFmt (tVar 1)] Str.empty σ H fun out H1 => Q (V.str out) H1) walk_range (fun i H' => Ex H H' ∧ IdxD H' D casesS i) ⟨Ex.new hD, IdxD.new⟩ (fun _ _ _ _ => True.intro) (fun i z H3 H4 hi hp hy => ?_) (fun H' hp => ?_)
    · obtain ⟨rfl, rfl⟩ := hy
      obtain ⟨x3, kvs, h1, h2, h3⟩ := hp
      have hi : i < 2400 := hi
      have hc : (1 : Int) + (i : Nat) = ((i + 1 : Nat) : Int) := by omega
      dsimp only
      rw [hc]
      have hl := natS_len (n := i + 1) (by omega)
      refine ⟨rfl, _, rfl, by rw [empty_app]; omega, _, rfl, .inr ⟨i + 1, rfl, natS_log (n := i + 1) (by omega), natS (i + 1), rfl, ?_, ?_⟩⟩
      · rw [empty_app, Str.length_append]
        omega
      · rw [empty_app]
        exact ⟨_, rfl, kvs, .inr (casesS (i + 1)), rfl, h1, by omega, x3.mut hD, IdxD.next h2 h3⟩
    · obtain ⟨x3, hI⟩ := hp
      obtain ⟨d1, o, d2, d3⟩ := hI.get t
      refine ⟨D, rfl, d1, _, rfl, o, d2, ?_⟩
      rw [d3]
      exact q H' x3
theorem ok_read_parting (T : Txt K mg AA) : Pr P w K mg base "read_parting" s_read_parting p_read_parting 3 spReadRow := by
  refine pr_mk T.f_read_parting sc_read_parting (fun vs H Q E h => ?_) (fun f cdv A outer s H vs Q E hr h => ?_)
  · obtain ⟨t, n, rfl, _⟩ := h
    rfl
  · obtain ⟨t, n, rfl, hn, ht, q⟩ := h
    refine ⟨_, (pss_cons (ps_set (i := 2) sc_read_parting.nd rfl (.inr rfl) (pe_dc (own := [("case", 5)]) (g := gName 5) (tt := tYes) rfl sc_read_parting.nd (pi_range2 (by rfl) T.n_range (pa_cons pe_int (pa_cons (pe_op op_add (pv 1) pe_int) pa_nil))) (blkOk_by (own := [("case", 5)]) (N := n_read_parting) (sc := defScope s_read_parting) (by decide +kernel)) (fun _ _ _ _ _ => (pg_name (i := 5) sc_read_parting.nd rfl (.inl rfl))) (fun _ _ _ _ _ => pts_nil) (fun _ _ _ _ _ => (pe_callTy call_str_int (by rfl) T.n_str PyProof.Rows.boot_str (pa_cons (pv 5) pa_nil))) (fun _ _ _ _ _ => (pv 5))))
      (pss_cons (ps_asg (pe_split (pv 0) pe_str) (pg_starL (by rfl) (pgs_cons (pg_name (i := 3) sc_read_parting.nd rfl (.inl rfl)) (pgs_cons (pg_name (i := 4) sc_read_parting.nd rfl (.inl rfl)) pgs_nil))))
      (pss_one (ps_ret (pe_tup (pa_cons (pv 3) (pa_cons (pe_callTy call_tuple_of (by rfl) T.n_tuple PyProof.Rows.boot_tuple (pa_cons (pe_lc (own := [("word", 6)]) (g := gName 6) (tt := tYes) rfl sc_read_parting.nd (pi_list (pv 4)) (blkOk_by (own := [("word", 6)]) (N := n_read_parting) (sc := defScope s_read_parting) (by decide +kernel)) (fun _ _ _ _ _ => (pg_name (i := 6) sc_read_parting.nd rfl (.inl rfl))) (fun _ _ _ _ _ => pts_nil) (fun _ _ _ _ _ => (pe_dget2 (hu_of hr) (pv 2) (pv 6) pe_int ⟨by rfl, by rfl, by rfl, by rfl⟩))) pa_nil)) pa_nil))))))), ?_⟩
    have big : 16777216 ≤ sizeLine := by rw [sizeLine_eq]; decide
    refine ⟨_, rfl, _, _, rfl, rfl, _, _, rfl, ⟨by omega, by omega, by omega, by omega⟩, fun D hD => ?_⟩
    rw [show ((n : Int) + 1 - 1).toNat = n by omega]
    refine dc_by walk_range (fun i H' => Ex H H' ∧ IdxD H' D natS i) ⟨Ex.new hD, IdxD.new⟩ (fun _ _ _ _ => True.intro) (fun i z H3 H4 hi hp hy => ?_) (fun H3 hp => ?_)
    · obtain ⟨rfl, rfl⟩ := hy
      obtain ⟨x3, kvs, h1, h2, h3⟩ := hp
      have hc : (1 : Int) + (i : Nat) = ((i + 1 : Nat) : Int) := by omega
      dsimp only
      rw [hc]
      exact ⟨rfl, _, rfl, _, rfl, natS_log (n := i + 1) (by omega), _, rfl, kvs, .inr (natS (i + 1)), rfl, h1, by omega, x3.mut hD, IdxD.next h2 h3⟩
    obtain ⟨x3, hI⟩ := hp
    have hpos := PyProof.Rows.split_pos t (Str.ofString " ")
    have hle := PyProof.Rows.split_le t (Str.ofString " ")
    obtain ⟨x, xs, hs⟩ : ∃ x xs, Txt.split t (Str.ofString " ") = x :: xs := by
      match Txt.split t (Str.ofString " "), hpos with
      | x :: xs, _ => exact ⟨x, xs, rfl⟩
    rw [hs, List.length_cons] at hle
    refine ⟨_, rfl, ⟨t, rfl⟩, t, Str.ofString " ", rfl, rfl, by decide +kernel, by omega, fun L hL => ?_⟩
    rw [hs]
    have e4 := Ex.new (o := .lst ((x :: xs).map V.str)) hL
    have hL4 := upd_same (H := H3) (a := L) (o := HO.lst ((x :: xs).map V.str))
    generalize upd H3 L _ = H4 at e4 hL4 ⊢
    refine ⟨L, .str x, xs.map V.str, rfl, sq_of hL4, by rw [List.length_map]; omega, fun D2 hD2 => ?_⟩
    have e5 := Ex.new (o := .lst (xs.map V.str)) hD2
    have hD5 := upd_same (H := H4) (a := D2) (o := HO.lst (xs.map V.str))
    generalize upd H4 D2 _ = H5 at e5 hD5 ⊢
    have hI5 := hI.mono (e4.trans e5)
    refine ⟨_, _, rfl, _, _, rfl, rfl, _, rfl, _, rfl, D2, rfl, ⟨_, sq_of hD5⟩, fun B hB => lc_it (walk_list (xs := xs.map V.str)) (fun i H' => Ex H5 H' ∧ H5 B = none ∧ H' B = some (.lst (nvs ((xs.take i).map (idxS natS n))))) ⟨Ex.new hB, hB, upd_same⟩ (fun _ _ _ hp => sq_of (hp.1 _ _ hD5)) (fun i u H6 H7 hi hp hy => ?_) (fun H6 hp => ?_)⟩
    · obtain ⟨rfl, hu⟩ := hy
      obtain ⟨x6, hB0, h6⟩ := hp
      rw [List.length_map] at hi
      rw [List.getElem?_map] at hu
      obtain ⟨wd, hw, rfl⟩ := Option.map_eq_some_iff.mp hu
      obtain ⟨d1, o, d2, d3⟩ := (hI5.mono x6).get wd
      refine ⟨rfl, _, rfl, D, rfl, d1, _, rfl, o, d2, ?_⟩
      rw [d3]
      refine ⟨_, h6, ?_, x6.mut hB0, hB0, ?_⟩
      · rw [nvs_len, List.length_map, List.length_take]
        omega
      · rw [upd_same, List.take_add_one, hw, List.map_append]
        unfold nvs
        rw [List.map_append]
        rfl
    obtain ⟨x6, hB0, h6⟩ := hp
    rw [List.length_map, List.take_length] at h6
    refine ⟨B, _, rfl, .inl ⟨sq_of h6, fun r hr => ?_⟩⟩
    have e7 := Ex.new (o := .tup (nvs (xs.map (idxS natS n)))) hr
    have hr7 := upd_same (H := H6) (a := r) (o := HO.tup (nvs (xs.map (idxS natS n))))
    generalize upd H6 r _ = H7 at e7 hr7 ⊢
    refine ⟨by show 2 ≤ sizeLine; decide, fun p hp => ?_⟩
    exact q x xs hs p r _ ((x3.trans (e4.trans (e5.trans (x6.trans e7)))).trans (Ex.new hp)) upd_same (Ex.new hp _ _ hr7)
end
end Eyes

set_option Elab.async false
set_option linter.all false
set_option maxRecDepth 100000
set_option maxHeartbeats 4000000
/-! The text of a world, split. -/
namespace Eyes
open PySem PySem.Spec PyProof.Rows L2 Evl TL
theorem natS_tl (m : Nat) : tl (natS m) = (Nat.toDigits 10 m).map Char.toNat := PySem.W.KIN.signs_num m
theorem natS_inj {a b : Nat} (h : natS a = natS b) : a = b := by
  have e := congrArg tl h
  rw [natS_tl, natS_tl] at e
  have e2 := congrArg PySem.NumText.digitsVal e
  rw [PySem.W.KIN.val_back, PySem.W.KIN.val_back] at e2
  exact e2
theorem natS_digit {m c : Nat} (h : c ∈ tl (natS m)) : 48 ≤ c ∧ c ≤ 57 := by
  rw [natS_tl] at h
  obtain ⟨ch, hch, rfl⟩ := List.mem_map.mp h
  exact PyProof.Rows.digit_range (Nat.isDigit_of_mem_toDigits (by decide) (by decide) hch)
theorem idxS_at {kf : Nat → Str} (inj : ∀ a b, kf a = kf b → a = b) {m : Nat} (h1 : 1 ≤ m) : ∀ {i : Nat}, m ≤ i → idxS kf i (kf m) = m
  | 0, h => absurd h (by omega)
  | i + 1, h => by
    unfold idxS
    by_cases e : m = i + 1
    · rw [if_pos (by rw [e]), e]
    · rw [if_neg fun z => e (inj _ _ z)]
      exact idxS_at inj h1 (by omega)
theorem casesS_inj (a b : Nat) (h : casesS a = casesS b) : a = b := by
  have e := congrArg tl h
  unfold casesS at e
  rw [tl_append, tl_append] at e
  exact natS_inj (TL.ext_tl (List.append_cancel_left e))
def lineS (t : Str) (p : List Nat) : Str := Txt.join (Str.ofString " ") (t :: p.map natS)
theorem joinL_end (s : List Nat) : ∀ ls : List (List Nat), joinL s (ls ++ [[]]) = (ls.map fun l => l ++ s).flatten
  | [] => rfl
  | [p] => by
    show p ++ (s ++ []) = (p ++ s) ++ []
    simp
  | p :: q :: r => by
    show p ++ (s ++ joinL s (q :: r ++ [[]])) = (p ++ s) ++ ((q :: r).map fun l => l ++ s).flatten
    rw [joinL_end s (q :: r), List.append_assoc]
theorem rowS_line {t : Str} {p : List Nat} (h : p ≠ []) : tl (rowS t p) = tl (lineS t p) ++ tl (Str.ofString "\n") := by
  obtain ⟨x, r, rfl⟩ := List.exists_cons_of_ne_nil h
  unfold rowS lineS
  rw [tl_append, TL.join_eq, TL.join_eq, tl_append, tl_append, tl_join, tl_join]
  show _ = (tl t ++ (tl (Str.ofString " ") ++ joinL (tl (Str.ofString " ")) (((x :: r).map natS).map tl))) ++ _
  rw [List.append_assoc (tl t)]
theorem chap_split {n : Nat} {f : Vw} (hp : ∀ e ∈ f, e.2 ≠ []) : chapS n f = Txt.join (Str.ofString "\n") ((casesS n :: f.map fun e => lineS e.1 e.2) ++ [Str.ofString ""]) := by
  refine ext_tl ?_
  have e0 : tl (Str.ofString "") = [] := rfl
  rw [TL.join_eq, tl_join, List.map_append]
  show _ = joinL _ ((casesS n :: f.map fun e => lineS e.1 e.2).map tl ++ [[]])
  rw [joinL_end]
  unfold chapS
  rw [tl_append, TL.join_eq, tl_join, e0, joinL_nil, List.map_cons, List.map_cons, List.flatten_cons, List.map_map, List.map_map, List.map_map]
  congr 1
  · unfold headS casesS
    rw [tl_append]
  · refine congrArg List.flatten (List.map_congr_left fun e he => ?_)
    exact rowS_line (hp e he)
theorem nm_no {t : Str} (h : nm t) {c : Nat} (hc : c ∈ tl t) : c ≠ 10 ∧ c ≠ 32 := by
  have := h.2.2 c hc
  omega
theorem line_split {t : Str} {p : List Nat} (h : nm t) : Txt.split (lineS t p) (Str.ofString " ") = t :: p.map natS := by
  refine split_join (y := Str.ofString " ") (s := 32) (S := []) rfl (by decide +kernel) (List.cons_ne_nil _ _) fun q hq hc => ?_
  rcases List.mem_cons.mp hq with rfl | hq
  · exact (nm_no h hc).2 rfl
  · obtain ⟨x, _, rfl⟩ := List.mem_map.mp hq
    have := natS_digit hc
    omega
theorem mem_joinL {s : List Nat} {c : Nat} : ∀ {ls : List (List Nat)}, c ∈ joinL s ls → c ∈ s ∨ ∃ l ∈ ls, c ∈ l
  | [], h => absurd h (by intro z; cases z)
  | [p], h => .inr ⟨p, .head _, h⟩
  | p :: q :: r, h => by
    have h : c ∈ p ++ (s ++ joinL s (q :: r)) := h
    rcases List.mem_append.mp h with h | h
    · exact .inr ⟨p, .head _, h⟩
    · rcases List.mem_append.mp h with h | h
      · exact .inl h
      · rcases mem_joinL h with h | ⟨l, hl, h⟩
        · exact .inl h
        · exact .inr ⟨l, .tail _ hl, h⟩
theorem line_no {t : Str} {p : List Nat} (h : nm t) {c : Nat} (hc : c ∈ tl (lineS t p)) : c ≠ 10 := by
  unfold lineS at hc
  rw [TL.join_eq, tl_join] at hc
  rcases mem_joinL hc with hc | ⟨l, hl, hd⟩
  · have e : tl (Str.ofString " ") = [32] := rfl
    rw [e] at hc
    have := List.mem_singleton.mp hc
    omega
  · obtain ⟨q, hq, rfl⟩ := List.mem_map.mp hl
    rcases List.mem_cons.mp hq with rfl | hq
    · exact (nm_no h hd).1
    · obtain ⟨x, _, rfl⟩ := List.mem_map.mp hq
      have := natS_digit hd
      omega
theorem cases_no {n c : Nat} (hc : c ∈ tl (casesS n)) : c ≠ 10 := by
  unfold casesS at hc
  rw [tl_append] at hc
  rcases List.mem_append.mp hc with hc | hc
  · have e : tl (Str.ofString "cases ") = [99, 97, 115, 101, 115, 32] := by decide +kernel
    rw [e] at hc
    simp only [List.mem_cons, List.not_mem_nil, or_false] at hc
    omega
  · have := natS_digit hc
    omega
theorem chap_lines {n : Nat} {f : Vw} (hp : ∀ e ∈ f, nm e.1 ∧ e.2 ≠ []) : Txt.split (chapS n f) (Str.ofString "\n") = casesS n :: ((f.map fun e => lineS e.1 e.2) ++ [Str.ofString ""]) := by
  rw [chap_split fun e he => (hp e he).2]
  refine split_join (y := Str.ofString "\n") (s := 10) (S := []) rfl (by decide +kernel) (List.cons_ne_nil _ _) fun q hq hc => ?_
  rcases List.mem_append.mp hq with hq | hq
  · rcases List.mem_cons.mp hq with rfl | hq
    · exact cases_no hc rfl
    · obtain ⟨e, he, rfl⟩ := List.mem_map.mp hq
      exact line_no (hp e he).1 hc rfl
  · rw [List.mem_singleton.mp hq] at hc
    cases hc
theorem line_len {n : Nat} {t : Str} {p : List Nat} (h1 : 1 ≤ n) (hn : n ≤ 2400) (hP : IsP n p) (ht : nm t) : (lineS t p).length ≤ 15000 := by
  have hp : p ≠ [] := fun e => by
    have := hP.len
    rw [e] at this
    have h0 : ([] : List Nat).length = 0 := rfl
    omega
  have e := congrArg List.length (rowS_line (t := t) hp)
  rw [List.length_append, ← len_tl, ← len_tl, ← len_tl] at e
  have h2 := (items_len (by omega) hP).2
  have e1 : (Str.ofString " ").length = 1 := by decide +kernel
  have e2 : (Str.ofString "\n").length = 1 := by decide +kernel
  have e3 := ht.2.1
  unfold rowS at e
  rw [Str.length_append, Str.length_append, Str.length_append] at e
  omega
theorem ltC_iff : ∀ a b : List Nat, ltCps a b = decide (a < b)
  | [], [] => rfl
  | [], _ :: _ => (decide_eq_true (List.nil_lt_cons _ _)).symm
  | _ :: _, [] => (decide_eq_false (List.not_lt_nil _)).symm
  | x :: a, y :: b => by
    show (decide (x < y) || (x == y && ltCps a b)) = _
    rw [ltC_iff a b, Bool.eq_iff_iff, decide_eq_true_iff, List.cons_lt_cons_iff]
    simp
theorem sorted_lt {l : List Str} (h : l.Pairwise fun a b => leC a.cps.toList b.cps.toList) (hn : l.Nodup) : l.Pairwise fun a b => a.cps.toList < b.cps.toList := by
  refine (List.Pairwise.and h hn).imp fun {a b} ⟨h1, h2⟩ => ?_
  have h1 : ltCps b.cps.toList a.cps.toList = false := h1
  cases e : ltCps a.cps.toList b.cps.toList with
  | true => exact of_decide_eq_true ((ltC_iff _ _).symm.trans e)
  | false => exact absurd (TL.ext_tl (ltC_total _ _ e h1)) h2
end Eyes

set_option Elab.async false
set_option linter.all false
set_option maxRecDepth 100000
set_option maxHeartbeats 4000000
/-! == of worlds, whatever the other side is. -/
namespace Eyes
open PySem PySem.Spec PyProof.Rows L2 Evl TL
theorem sub_sorted {α : Type} {R : α → α → Prop} (irr : ∀ a, ¬ R a a) (tr : ∀ {a b c}, R a b → R b c → R a c) : ∀ {g f : List α}, f.Pairwise R → g.Pairwise R → (∀ x ∈ f, x ∈ g) → f.Sublist g
  | [], f, _, _, h => by
    cases f with
    | nil => exact .slnil
    | cons x f => exact absurd (h x (.head _)) (by intro z; cases z)
  | y :: g, [], _, _, _ => List.nil_sublist _
  | y :: g, x :: f, hf, hg, h => by
    have hx := List.pairwise_cons.mp hf
    have hy := List.pairwise_cons.mp hg
    rcases List.mem_cons.mp (h x (.head _)) with rfl | hm
    · refine List.Sublist.cons₂ _ (sub_sorted irr tr hx.2 hy.2 fun z hz => ?_)
      rcases List.mem_cons.mp (h z (.tail _ hz)) with rfl | hz2
      · exact absurd (hx.1 _ hz) (irr _)
      · exact hz2
    · refine List.Sublist.cons _ (sub_sorted irr tr hf hy.2 fun z hz => ?_)
      rcases List.mem_cons.mp (h z hz) with rfl | hz2
      · rcases List.mem_cons.mp hz with rfl | hz
        · exact hm
        · exact absurd (tr (hx.1 _ hz) (hy.1 _ hm)) (irr _)
      · exact hz2
def CnV (f : Vw) : Prop := (f.map (·.1)).Nodup ∧ (f.map (·.1)).Pairwise fun a b => leC a.cps.toList b.cps.toList
theorem seen_cn {n : Nat} {f : Vw} {ys : List Str} (hy : ys.Perm (f.map (·.1))) (fn : (f.map (·.1)).Nodup) (sy : sortedS ys = true) : CnV (seenV n f ys) := by
  have e : (seenV n f ys).map (·.1) = ys.filter fun t => decide (gP n f t ≠ alone n) := by
    rw [seenV_filter, List.map_map]
    exact List.map_id _
  unfold CnV
  rw [e]
  exact ⟨(hy.nodup_iff.mpr fn).filter _, (sortedS_pw sy).filter _⟩
theorem vw_get {f : Vw} (h : (f.map (·.1)).Nodup) {e : Str × List Nat} (he : e ∈ f) : wGet f e.1 = some e.2 := by
  induction f with
  | nil => cases he
  | cons x f ih =>
    have hx := List.nodup_cons.mp (show (x.1 :: f.map (·.1)).Nodup from h)
    unfold wGet at ih ⊢
    rw [List.find?_cons]
    rcases List.mem_cons.mp he with rfl | he
    · rw [decide_eq_true rfl]
      rfl
    · have hne : x.1 ≠ e.1 := fun z => hx.1 (z ▸ List.mem_map.mpr ⟨e, he, rfl⟩)
      rw [decide_eq_false hne]
      exact ih hx.2 he
theorem get_mem {f : Vw} {t : Str} {p : List Nat} (h : wGet f t = some p) : (t, p) ∈ f := by
  unfold wGet at h
  obtain ⟨e, he, rfl⟩ := Option.map_eq_some_iff.mp h
  have h1 := List.mem_of_find?_eq_some he
  have h2 : e.1 = t := of_decide_eq_true (p := e.1 = t) (List.find?_some (p := fun e : Str × List Nat => decide (e.1 = t)) he)
  rw [← h2]
  exact h1
theorem cn_same {f g : Vw} (hf : CnV f) (hg : CnV g) : (f.length == g.length && f.all fun e => decide (wGet g e.1 = some e.2)) = decide (f = g) := by
  rw [Bool.eq_iff_iff, Bool.and_eq_true, beq_iff_eq, List.all_eq_true, decide_eq_true_iff]
  constructor
  · rintro ⟨hl, ha⟩
    have pf := List.pairwise_map.mp (sorted_lt hf.2 hf.1)
    have pg := List.pairwise_map.mp (sorted_lt hg.2 hg.1)
    refine (sub_sorted (R := fun (a b : Str × List Nat) => a.1.cps.toList < b.1.cps.toList) (fun a => List.lt_irrefl _) (fun h1 h2 => List.lt_trans h1 h2) pf pg fun x hx => ?_).eq_of_length hl
    exact get_mem (of_decide_eq_true (ha x hx))
  · rintro rfl
    exact ⟨rfl, fun e he => decide_eq_true (vw_get hf.1 he)⟩
theorem vK_hits {K : PySem.W.Frag} {H : Hp} {n m : Nat} {U : List VRow} (hU : ∀ e ∈ U, H e.2.1 = some (.tup (nvs e.2.2)) ∧ IsP m e.2.2) : ∀ {W : List VRow}, (∀ e ∈ W, H e.2.1 = some (.tup (nvs e.2.2)) ∧ IsP n e.2.2) → HitsB K H (vK U) (vK W) ((vW W).all fun e => decide (wGet (vW U) e.1 = some e.2))
  | [], _ => .nil
  | x :: W, hW => by
    have ih := vK_hits (K := K) hU (W := W) fun e he => hW e (.tail _ he)
    have hx := hW x (.head _)
    have look : ∀ U : List VRow, (∀ e ∈ U, H e.2.1 = some (.tup (nvs e.2.2)) ∧ IsP m e.2.2) → (valV (vK U) (.inr x.1 : L2.Key) = none ∧ wGet (vW U) x.1 = none) ∨ ∃ y ∈ U, valV (vK U) (.inr x.1 : L2.Key) = some (.ref y.2.1) ∧ wGet (vW U) x.1 = some y.2.2 := fun U hU => by
      induction U with
      | nil => exact .inl ⟨rfl, rfl⟩
      | cons y U ih =>
        by_cases e : y.1 = x.1
        · refine .inr ⟨y, .head _, ?_, ?_⟩
          · show valV ((Sum.inr y.1, V.ref y.2.1) :: vK U) (.inr x.1 : L2.Key) = _
            rw [valV_pos (congrArg Sum.inr e)]
          · show (((y.1, y.2.2) :: vW U).find? fun e => decide (e.1 = x.1)).map (·.2) = _
            rw [List.find?_cons, decide_eq_true e]
            rfl
        · have e1 : valV (vK (y :: U)) (.inr x.1 : L2.Key) = valV (vK U) (.inr x.1) := valV_neg (p := ((Sum.inr y.1 : L2.Key), V.ref y.2.1)) fun z => e (Sum.inr.inj z)
          have e2 : wGet (vW (y :: U)) x.1 = wGet (vW U) x.1 := by
            show (((y.1, y.2.2) :: vW U).find? fun e => decide (e.1 = x.1)).map (·.2) = _
            rw [List.find?_cons, decide_eq_false e]
            rfl
          rw [e1, e2]
          rcases ih fun e he => hU e (.tail _ he) with h | ⟨y', hy', h⟩
          · exact .inl h
          · exact .inr ⟨y', .tail _ hy', h⟩
    show HitsB K H (vK U) ((Sum.inr x.1, V.ref x.2.1) :: vK W) (decide (wGet (vW U) x.1 = some x.2.2) && (vW W).all fun e => decide (wGet (vW U) e.1 = some e.2))
    rcases look U hU with ⟨h1, h2⟩ | ⟨y, hy, h1, h2⟩
    · rw [h2, decide_eq_false (by intro z; cases z), Bool.false_and]
      exact .miss h1
    · have hy2 := hU y hy
      refine .hit h1 ⟨.tuple (ndats x.2.2), .tuple (ndats y.2.2), .tup (st_of hx.1) (dp_nats _), .tup (st_of hy2.1) (dp_nats _), shaped_tup _, shaped_tup _, ?_⟩ ih
      rw [eqv_tup, h2]
      exact decide_eq_decide.mpr ⟨fun e => by rw [e], fun e => (Option.some.inj e).symm⟩
def spEqAll (C : Addr) : Sp := fun vs H Q _ => ∃ (v y : V) (n : Nat) (f : Vw), vs = [v, y] ∧ n ≤ 4096 ∧ WorldAt C H v n f ∧
  ((∃ (m : Nat) (g : Vw), m ≤ 4096 ∧ WorldAt C H y m g ∧ CnV f ∧ CnV g ∧ Q (.bl (decide (n = m ∧ f = g))) H) ∨ (((∃ i, y = .int i) ∨ (∃ z, y = .str z) ∨ ∃ b zs, y = .ref b ∧ H b = some (.lst zs)) ∧ Q (.bl false) H))
section
variable {P : Program} {w : World} {K : PySem.W.Frag} {mg : Str → Option Value} {base : Heap} {AA : Adr}
theorem ok_World___eqA (T : Txt K mg AA) : PrM P w K mg base AA.World "__eq__" p_World___eq 1 (spEqAll AA.World) := by
  refine prm_mk T.t_World___eq sc_World___eq (fun vs H Q E h => ?_) (fun f cdv A outer s H vs Q E hr h => ?_)
  · obtain ⟨v, y, n, f, rfl, _⟩ := h
    rfl
  · obtain ⟨v, y, n, f, rfl, hn, ⟨p, dx, D, rfl, hp, W, a1, a2, a3⟩, h⟩ := h
    refine ⟨_, (pss_one (ps_ret (pe_and (pe_callB (call_isiK (K := K) rfl) (by rfl) T.n_isinstance PyProof.Rows.boot_isinstance (pa_cons (pv 1) (pa_cons (pe_glob (v := .ref AA.World) (by rfl) T.m_World rfl) pa_nil))) (pe_and (pe_cmpR op_eq (pe_fldK (K := K) rfl (pv 0) rfl) (pe_fldK (K := K) rfl (pv 1) rfl) (nomark _)) (pe_one (pe_cmpR (op_eqDBK (K := K) rfl (u65 hr)) (pe_fldK (K := K) rfl (pv 0) rfl) (pe_fldK (K := K) rfl (pv 1) rfl) (nomark _))))))), ?_⟩
    rcases h with ⟨m, g, hm, ⟨p2, dx2, D2, rfl, hp2, U, b1, b2, b3⟩, hf, hg, q⟩ | ⟨hy, q⟩
    · refine ⟨_, rfl, _, _, _, _, _, rfl, .own _, .base (.ins hp2 T.c_World T.y_World.ty1 T.y_World.ty2 T.y_World.ty3 T.y_World.ty4), kit_self, ?_⟩
      refine ⟨_, rfl, iteT ?_⟩
      refine ⟨_, rfl, p, AA.World, dx, _, _, rfl, hp, T.c_World, T.a_World_many, wf_many, _, rfl, p2, AA.World, dx2, _, _, rfl, hp2, T.c_World, T.a_World_many, wf_many, rfl, ?_⟩
      refine ⟨_, rfl, ?_⟩
      by_cases e : n = m
      · subst e
        rw [decide_eq_true rfl]
        refine iteT ⟨_, rfl, p, AA.World, dx, _, _, rfl, hp, T.c_World, T.a_World_partings, wf_part, _, rfl, p2, AA.World, dx2, _, _, rfl, hp2, T.c_World, T.a_World_partings, wf_part, D, D2, vK W, vK U, _, rfl, rfl, a1, b1, fun _ => vK_hits b3 a3, ?_⟩
        have hl : ((vK W).length == (vK U).length) = (f.length == g.length) := by
          rw [← a2, ← b2]
          unfold vK vW
          rw [List.length_map, List.length_map, List.length_map, List.length_map]
        rw [hl, a2, b2, cn_same hf hg]
        rw [show decide (f = g) = decide (n = n ∧ f = g) from decide_eq_decide.mpr ⟨fun h => ⟨rfl, h⟩, fun h => h.2⟩]
        exact q
      · rw [show decide (V.int (n : Int) = V.int (m : Int)) = false from decide_eq_false fun z => e (Int.ofNat.inj (V.int.inj z))]
        refine iteF ?_
        rw [decide_eq_false fun z => e z.1] at q
        exact q
    · rcases hy with ⟨i, rfl⟩ | ⟨z, rfl⟩ | ⟨b, zs, rfl, hb⟩
      · exact ⟨_, rfl, _, _, _, _, _, rfl, .own _, .base (.int i), T.kw_int, _, rfl, iteF q⟩
      · exact ⟨_, rfl, _, _, _, _, _, rfl, .own _, .base (.str z), T.kw_str, _, rfl, iteF q⟩
      · exact ⟨_, rfl, _, _, _, _, _, rfl, .own _, .base (.lst hb), T.kw_list, _, rfl, iteF q⟩
end
end Eyes

set_option Elab.async false
set_option linter.all false
set_option maxRecDepth 100000
set_option maxHeartbeats 4000000
/-! Worlds read: a good text. -/
namespace Eyes
open PySem PySem.Spec PyProof.Rows L2 Evl TL
theorem dp_strs {K : PySem.W.Frag} {H : Hp} : ∀ l : List Str, DpAll K H (l.map V.str) (l.map PyData.str)
  | [] => .nil
  | _ :: l => .cons (.str _) (dp_strs l)
theorem shaped_strs {l : List Str} (h : ∀ s ∈ l, PyData.strOk s = true) : SeqAt.shaped (.list (l.map PyData.str)) = true := by
  have h1 : PyData.canLay0 (.list (l.map PyData.str)) = true := by
    show PyData.canLayAll0 _ = true
    induction l with
    | nil => rfl
    | cons c l ih =>
      show (PyData.canLay0 (.str c) && PyData.canLayAll0 (l.map PyData.str)) = true
      rw [ih fun s hs => h s (List.mem_cons_of_mem _ hs), Bool.and_true]
      exact h c (.head _)
  have h2 : PyData.depth (.list (l.map PyData.str)) ≤ 64 := by
    have : PyData.depthAll (l.map PyData.str) = 0 := by
      clear h1 h
      induction l with
      | nil => rfl
      | cons c l ih =>
        show max (PyData.depth (.str _)) _ = 0
        rw [ih]
        rfl
    show PyData.depthAll _ + 1 ≤ 64
    rw [this]
    decide
  unfold SeqAt.shaped
  rw [h1, decide_eq_true h2]
  rfl
theorem strOk_of {s : Str} (h : ∀ c ∈ tl s, c < 1114112) : PyData.strOk s = true := by
  show s.cps.all (fun c => decide (c < 1114112)) = true
  rw [← Array.all_toList, List.all_eq_true]
  exact fun c hc => decide_eq_true (h c hc)
theorem line_ok {t : Str} {p : List Nat} (h : nm t) : PyData.strOk (lineS t p) = true := strOk_of fun c hc => by
  unfold lineS at hc
  rw [TL.join_eq, tl_join] at hc
  rcases mem_joinL hc with hc | ⟨l, hl, hd⟩
  · have e : tl (Str.ofString " ") = [32] := rfl
    rw [e] at hc
    have := List.mem_singleton.mp hc
    omega
  · obtain ⟨q, hq, rfl⟩ := List.mem_map.mp hl
    rcases List.mem_cons.mp hq with rfl | hq
    · have := h.2.2 c hd
      omega
    · obtain ⟨x, _, rfl⟩ := List.mem_map.mp hq
      have := natS_digit hd
      omega
theorem vK_valV {t : Str} {v : V} : ∀ {W : List VRow}, valV (vK W) (.inr t : L2.Key) = some v → ∃ e ∈ W, e.1 = t
  | [], h => by cases h
  | x :: W, h => by
    by_cases hx : (Sum.inr x.1 : L2.Key) = .inr t
    · exact ⟨x, .head _, Sum.inr.inj hx⟩
    · have h : valV ((Sum.inr x.1, V.ref x.2.1) :: vK W) (.inr t : L2.Key) = some v := h
      rw [valV_neg hx] at h
      obtain ⟨e, he, h2⟩ := vK_valV h
      exact ⟨e, .tail _ he, h2⟩
theorem cut_butlast (xs : List V) (y : V) : cutV (xs ++ [y]) none (some (-1)) = xs := by
  unfold cutV
  rw [HT.sIx_none, List.drop_zero, Nat.sub_zero]
  have e : HT.sIx (xs ++ [y]).length (xs ++ [y]).length (some (-1)) = xs.length := by
    show (if (-1 : Int) < 0 then ((-1 : Int) + ((xs ++ [y]).length : Nat)).toNat else min (-1 : Int).toNat (xs ++ [y]).length) = xs.length
    rw [if_pos (by decide), List.length_append, show [y].length = 1 from rfl]
    omega
  rw [e]
  exact List.take_left ..
theorem at_last {xs : List V} {y : V} : atI (xs ++ [y]) (-1) = some y := by
  unfold atI ixN
  rw [if_neg (by decide), if_pos (by rw [List.length_append, show [y].length = 1 from rfl]; omega)]
  show (xs ++ [y])[((-1 : Int) + ((xs ++ [y]).length : Nat)).toNat]? = some y
  rw [List.length_append, show ((-1 : Int) + ((xs.length + [y].length : Nat) : Int)).toNat = xs.length by
    rw [show [y].length = 1 from rfl]
    omega]
  simp
structure RdOk (n : Nat) (f : Vw) : Prop where
  n1 : 1 ≤ n
  n2 : n ≤ 2400
  few : f.length < 64
  nm : ∀ e ∈ f, nm e.1
  P : ∀ e ∈ f, IsP n e.2 ∧ e.2 ≠ alone n
  nd : (f.map (·.1)).Nodup
  so : (f.map (·.1)).Pairwise fun a b => leC a.cps.toList b.cps.toList
theorem RdOk.vw {n : Nat} {f : Vw} (h : RdOk n f) (t : Str) : IsP n (gP n f t) := by
  unfold gP wGet
  cases e : f.find? fun e => decide (e.1 = t) with
  | none => exact isP_alone n
  | some x => exact (h.P x (List.mem_of_find?_eq_some e)).1
theorem RdOk.ne {n : Nat} {f : Vw} (h : RdOk n f) : ∀ e ∈ f, Eyes.nm e.1 ∧ e.2 ≠ [] := fun e he => ⟨h.nm e he, fun z => by
  have := (h.P e he).1.len
  rw [z] at this
  have h0 : ([] : List Nat).length = 0 := rfl
  have := h.n1
  omega⟩
theorem items_back {n : Nat} {p : List Nat} (hP : IsP n p) : (p.map natS).map (idxS natS n) = p := by
  rw [List.map_map]
  refine (List.map_congr_left fun x hx => ?_).trans (List.map_id p)
  obtain ⟨i, hi, rfl⟩ := List.getElem_of_mem hx
  have hi2 : i < n := by rw [← hP.len]; exact hi
  have lo := hP.lo (i + 1) (by omega) (by omega)
  have e := itm_get (p := p) (x := i + 1) (by omega) (by omega)
  rw [Nat.add_sub_cancel, List.getElem?_eq_getElem hi] at e
  have e := Option.some.inj e
  show idxS natS n (natS p[i]) = p[i]
  rw [e]
  exact idxS_at (fun _ _ => natS_inj) lo.1 (by omega)
def spReadW (C : Addr) : Sp := fun vs H Q _ => ∃ (n : Nat) (f : Vw), vs = [.str (chapS n f)] ∧ RdOk n f ∧
  ∀ u H', Ex H H' → WIs C H' u n f.length (gP n f) → Q u H'
section
variable {P : Program} {w : World} {K : PySem.W.Frag} {mg : Str → Option Value} {base : Heap} {AA : Adr}
theorem ok_World_read (T : Txt K mg AA) : PrSta P w K mg base AA.World "read" p_World_read 12 (spReadW AA.World) := by
  refine prsta_mk T.u_World_read sc_World_read (fun vs H Q E h => ?_) (fun f cdv A outer s H vs Q E hr h => ?_)
  · obtain ⟨n, f, rfl, _⟩ := h
    rfl
  · obtain ⟨n, f, rfl, hf, q⟩ := h
    refine ⟨_, (pss_cons (ps_if (pt_not (pt_val (pe_callB (call_isiK (K := K) rfl) (by rfl) T.n_isinstance PyProof.Rows.boot_isinstance (pa_cons (pv 0) (pa_cons (pe_bltn (v := .ty "str") (by rfl) T.n_str (by decide +kernel) rfl) pa_nil)))))
      pss_never
      pss_nil)
      (pss_cons (ps_asg (pe_split (pv 0) pe_str) (pg_starL (by rfl) (pgs_cons (pg_name (i := 1) sc_World_read.nd rfl (.inl rfl)) (pgs_cons (pg_name (i := 2) sc_World_read.nd rfl (.inl rfl)) pgs_nil))))
      (pss_cons (ps_set (i := 3) sc_World_read.nd rfl (.inl rfl) (pcall (ok_read_many T) hr (pa_cons (pv 1) pa_nil)))
      (pss_cons (ps_if (PW.pt (pw_or (pt_cmpR op_eq (pv 3) pe_int (nomark _)) (pw_or1 (pt_cmpR (op_eqD hr.units) (pv 2) (pe_lst pa_nil) (nomark _)))))
      pss_never
      pss_nil)
      (pss_cons (ps_set (i := 4) sc_World_read.nd rfl (.inl rfl) pe_dnewK)
      (pss_cons (ps_set (i := 5) sc_World_read.nd rfl (.inl rfl) pe_str)
      (pss_cons (ps_for PassesOwn.never rfl (pi_enumLSK (K := K) rfl (by rfl) T.n_enumerate (pa_cons (pe_slice sl_list (pv 2) po_none (po_some (pe_un un_neg pe_int))) pa_nil) (pk_cons pe_int pk_nil)) (pg_tup (by rfl) (pgs_cons (pg_name (i := 6) sc_World_read.nd rfl (.inl rfl)) (pgs_cons (pg_name (i := 7) sc_World_read.nd rfl (.inl rfl)) pgs_nil)))
      (pss_cons (ps_asg (pcall (ok_read_parting T) hr (pa_cons (pv 7) (pa_cons (pv 3) pa_nil))) (pg_tup (by rfl) (pgs_cons (pg_name (i := 8) sc_World_read.nd rfl (.inl rfl)) (pgs_cons (pg_name (i := 9) sc_World_read.nd rfl (.inl rfl)) pgs_nil))))
      (pss_cons (ps_if (PW.pt (pw_or (pt_not (pt_val (pcall (ok_is_name T) hr (pa_cons (pv 8) pa_nil)))) (pw_or (pt_cmpR op_le_str (pv 8) (pv 5) (nomark _)) (pw_or (pt_not (pt_val (pcall (ok_is_parting_to T) hr (pa_cons (pv 9) (pa_cons (pv 3) pa_nil))))) (pw_or1 (pt_cmpR (op_eqD hr.units) (pv 9) (pcall (ok_apart T) hr (pa_cons (pv 3) pa_nil)) (nomark _)))))))
      pss_never
      pss_nil)
      (pss_cons (ps_dput (hu_of hr) (pv 4) (pv 8) (pv 9) rfl)
      (pss_one (ps_set (i := 5) sc_World_read.nd rfl (.inl rfl) (pv 8)))))))
      (pss_cons (ps_if (pt_cmpR op_ne (pe_ix (ix_listK (K := K) rfl) (pv 2) (pe_un un_neg pe_int) (fun _ _ => rfl)) pe_str (nomark _))
      pss_never
      pss_nil)
      (pss_one (ps_ret (pcall (ok_world_with T) hr (pa_cons (pv 3) (pa_cons (pv 4) pa_nil))))))))))))), ?_⟩
    have big : 16777216 ≤ sizeLine := by rw [sizeLine_eq]; decide
    have n1 := hf.n1
    have n2 := hf.n2
    have few := hf.few
    have hfew : fewV n f := ⟨by omega, by omega, fun e he => ⟨by have := (hf.nm e he).2.1; omega, (hf.P e he).1⟩⟩
    have hcl := chap_len hfew
    refine ⟨_, rfl, _, _, _, _, true, rfl, .ty _, .base (.str _), kit_ty (a := "str") (by decide +kernel), _, rfl, iteF ?_⟩
    refine ⟨_, rfl, ⟨_, rfl⟩, _, Str.ofString "\n", rfl, rfl, by decide +kernel, by omega, fun L0 hL0 => ?_⟩
    rw [chap_lines hf.ne]
    have hlk : ((f.map fun e => lineS e.1 e.2) ++ [Str.ofString ""]).length = f.length + 1 := by
      rw [List.length_append, List.length_map]
      rfl
    have hLs : ((f.map fun e => lineS e.1 e.2) ++ [Str.ofString ""]).map V.str = (f.map fun e => V.str (lineS e.1 e.2)) ++ [V.str (Str.ofString "")] := by
      rw [List.map_append, List.map_map]
      rfl
    have hok : ∀ s ∈ (f.map fun e => lineS e.1 e.2) ++ [Str.ofString ""], PyData.strOk s = true := fun s hs => by
      rcases List.mem_append.mp hs with hs | hs
      · obtain ⟨e, he, rfl⟩ := List.mem_map.mp hs
        exact line_ok (hf.nm e he)
      · rw [List.mem_singleton.mp hs]
        decide +kernel
    have e0 := Ex.new (o := .lst ((casesS n :: ((f.map fun e => lineS e.1 e.2) ++ [Str.ofString ""])).map V.str)) hL0
    have h0 := upd_same (H := H) (a := L0) (o := HO.lst ((casesS n :: ((f.map fun e => lineS e.1 e.2) ++ [Str.ofString ""])).map V.str))
    generalize upd H L0 _ = H0 at e0 h0 ⊢
    refine ⟨L0, .str (casesS n), ((f.map fun e => lineS e.1 e.2) ++ [Str.ofString ""]).map V.str, rfl, sq_of h0, by rw [List.length_map, hlk]; omega, fun L hL => ⟨_, _, rfl, _, _, rfl, rfl, ?_⟩⟩
    have e1 := Ex.new (o := .lst (((f.map fun e => lineS e.1 e.2) ++ [Str.ofString ""]).map V.str)) hL
    have h1 := upd_same (H := H0) (a := L) (o := HO.lst (((f.map fun e => lineS e.1 e.2) ++ [Str.ofString ""]).map V.str))
    generalize upd H0 L _ = H1 at e1 h1 ⊢
    refine ⟨_, rfl, casesS n, rfl, fun H2 e2 => ?_⟩
    rw [idxS_at casesS_inj n1 n2]
    have hn0 : ¬ (n : Int) = 0 := by omega
    have h2 := e2 _ _ h1
    have x2 := e0.trans (e1.trans e2)
    refine ⟨_, rfl, rfl, _, rfl, ?_⟩
    rw [show decide (V.int (n : Int) = V.int 0) = false from decide_eq_false fun z => hn0 (V.int.inj z)]
    refine iteF ⟨_, rfl, by show 0 ≤ sizeLine; decide, fun D0 hD0 => ?_⟩
    have e3 := Ex.new (o := .lst []) hD0
    have h3 := e3 _ _ h2
    refine ⟨_, .list [], .lst (sq_of h3) (dp_strs _), .lst (sq_of upd_same) .nil, shaped_strs hok, by decide +kernel, ?_⟩
    rw [show PyData.eqv (.list (((f.map fun e => lineS e.1 e.2) ++ [Str.ofString ""]).map PyData.str)) (.list []) = false by
      cases f with
      | nil => rfl
      | cons e f => rfl]
    refine ⟨_, rfl, iteF ?_⟩
    generalize upd H2 D0 (.lst []) = H3 at e3 h3 ⊢
    clear h0 h1 h2 hL0 hL hD0
    have x3 := x2.trans e3
    rw [hLs] at h3
    -- the dict of partings
    refine fun D hD => ?_
    have hD4 := upd_same (H := H3) (a := D) (o := HO.dK [])
    have e4 := Ex.new (o := .dK []) hD
    generalize upd H3 D (.dK []) = H4 at hD4 e4 ⊢
    refine ⟨_, rfl, _, rfl, -1, rfl, L, _, rfl, sq_of (e4 _ _ h3), fun S hS => ?_⟩
    rw [cut_butlast]
    have e5 := Ex.new (o := .lst (f.map fun e => V.str (lineS e.1 e.2))) hS
    have hS5 := upd_same (H := H4) (a := S) (o := HO.lst (f.map fun e => V.str (lineS e.1 e.2)))
    have hD5 := e5 _ _ hD4
    have x35 := e4.trans e5
    generalize upd H4 S _ = H5 at e5 hS5 hD5 x35 ⊢
    have hsl := sorted_lt hf.so hf.nd
    refine ⟨S, 1, _, rfl, rfl, by decide, by decide, sq_of hS5, ?_⟩
    refine for_it (walk_enumL (xs := f.map fun e => V.str (lineS e.1 e.2))) (fun i σ H' => ∃ (ah : Str) (y6 y7 y8 y9 : Option V), σ = [some (.str (chapS n f)), some (.str (casesS n)), some (.ref L), some (.int (n : Int)), some (.ref D), some (.str ah), y6, y7, y8, y9] ∧ Ex H3 H' ∧ H' S = some (.lst (f.map fun e => V.str (lineS e.1 e.2))) ∧ VwAt H' D n (f.take i) ∧ ∀ e, f[i]? = some e → ah.cps.toList < e.1.cps.toList) ⟨_, _, _, _, _, rfl, x35, hS5, ⟨[], hD5, rfl, fun e he => nomatch he⟩, fun e he => ?_⟩ (fun i σ H' _ hp => ?_) (fun i v σ H6 H7 hi hp hy => ?_) (fun σ H6 hp => ?_)
    · have h1 := (hf.nm e (List.mem_of_getElem? he)).1
      rw [len_tl] at h1
      show ([] : List Nat) < tl e.1
      cases hh : tl e.1 with
      | nil =>
        rw [hh] at h1
        exact absurd h1 (by decide)
      | cons c r => exact List.nil_lt_cons _ _
    · obtain ⟨_, _, _, _, _, _, _, h, _⟩ := hp
      exact sq_of h
    · obtain ⟨T1, u1, u2, rfl, hT, rfl, g1, g2⟩ := hy
      obtain ⟨ah, y6, y7, y8, y9, rfl, x6, hS6, hV6, hah⟩ := hp
      rw [List.length_map] at hi
      have g2 : (f.map fun e => V.str (lineS e.1 e.2))[i]? = some u2 := g2
      rw [List.getElem?_map] at g2
      obtain ⟨⟨tn, p⟩, hfe, rfl⟩ := Option.map_eq_some_iff.mp g2
      have hfm := List.mem_of_getElem? hfe
      have hnm : nm tn := hf.nm _ hfm
      obtain ⟨hP, hPn⟩ := hf.P _ hfm
      have hP : IsP n p := hP
      have hPn : p ≠ alone n := hPn
      have hlt : ah.cps.toList < tn.cps.toList := hah _ hfe
      have eT := Ex.new (o := .tup [u1, .str (lineS tn p)]) hT
      refine ⟨T1, _, rfl, st_of upd_same, rfl, _, _, rfl, _, _, rfl, rfl, ?_⟩
      generalize upd H6 T1 (.tup [u1, .str (lineS tn p)]) = H7 at eT ⊢
      refine ⟨_, rfl, _, rfl, lineS tn p, n, rfl, n2, line_len n1 n2 hP hnm, fun x xs hs p2 r2 H8 e8 hp2 hr2 => ?_⟩
      rw [line_split hnm] at hs
      obtain ⟨rfl, rfl⟩ := List.cons.inj hs
      rw [items_back hP] at hr2
      refine ⟨p2, _, rfl, st_of hp2, rfl, _, _, rfl, _, _, rfl, rfl, ?_⟩
      refine ⟨_, rfl, .str tn, .s tn, rfl, ⟨rfl, nm_okS hnm⟩, fun H9 e9 => ⟨_, rfl, ?_⟩⟩
      rw [show nameK (.s tn) = true from nm_name hnm]
      refine iteF ⟨_, rfl, _, rfl, tn, ah, rfl, rfl, _, rfl, ?_⟩
      rw [decide_eq_true hlt]
      have hr9 := e9 _ _ hr2
      refine iteF ⟨_, rfl, _, rfl, r2, p, n, rfl, hr9, hP, n1, by omega, fun H10 e10 => ⟨_, rfl, iteF ?_⟩⟩
      refine ⟨_, rfl, _, rfl, n, rfl, by omega, fun pa hpa => ?_⟩
      have e11 := Ex.new (o := .tup (nvs (alone n))) hpa
      have hr10 := e10 _ _ hr9
      refine ⟨.tuple (ndats p), .tuple (ndats (alone n)), .tup (st_of (e11 _ _ hr10)) (dp_nats _), .tup (st_of upd_same) (dp_nats _), shaped_tup _, shaped_tup _, ?_⟩
      rw [eqv_tup, decide_eq_false hPn]
      refine ⟨_, rfl, iteF ?_⟩
      generalize upd H10 pa (.tup (nvs (alone n))) = H11 at e11 ⊢
      have e611 := eT.trans (e8.trans (e9.trans (e10.trans e11)))
      have hr11 := e11 _ _ hr10
      obtain ⟨W, w1, w2, w3⟩ := hV6.mono e611
      have hS11 := e611 _ _ hS6
      have hWl : W.length ≤ i := by
        have := congrArg List.length w2
        unfold vW at this
        rw [List.length_map, List.length_take] at this
        omega
      have hnot : ∀ e ∈ W, e.1 ≠ tn := fun e he z => by
        have h1 : tn ∈ (f.take i).map (·.1) := by
          rw [← w2]
          unfold vW
          rw [List.map_map]
          exact List.mem_map.mpr ⟨e, he, z⟩
        obtain ⟨x, hx, hxe⟩ := List.mem_map.mp h1
        obtain ⟨j, hj, hxj⟩ := List.mem_take_iff_getElem.mp hx
        have hj2 : j < f.length := by omega
        have := List.pairwise_iff_getElem.mp hf.nd j i (by rw [List.length_map]; omega) (by rw [List.length_map]; omega) (by omega)
        rw [List.getElem_map, List.getElem_map] at this
        have hfi := List.getElem?_eq_getElem hi
        rw [hfe] at hfi
        rw [← Option.some.inj hfi, hxj, hxe] at this
        exact this rfl
      have hDr : D ≠ r2 := fun z => by
        rw [← z, w1] at hr11
        cases hr11
      have hkn : valV (vK W) (.inr tn : L2.Key) = none := by
        cases hv : valV (vK W) (.inr tn : L2.Key) with
        | none => rfl
        | some v =>
          obtain ⟨kv, hkv, e1⟩ := vK_valV hv
          exact absurd e1 (hnot kv hkv)
      refine ⟨_, rfl, _, rfl, _, rfl, D, _, rfl, .inl ⟨vK W, .inr tn, w1, rfl, ?_, rfl⟩, ?_⟩
      · unfold vK
        rw [List.length_map]
        omega
      rw [putK_new _ hkn]
      refine ⟨_, rfl, tn, _, _, _, _, rfl, (x6.trans e611).mut hD, ?_, ⟨W ++ [(tn, r2, p)], ?_, ?_, fun e he => ?_⟩, fun e he => ?_⟩
      · rw [upd_ne fun z => by rw [z, w1] at hS11; cases hS11]
        exact hS11
      · rw [upd_same]
        unfold vK
        rw [List.map_append]
        rfl
      · unfold vW at w2 ⊢
        rw [List.map_append, w2, List.take_add_one, hfe]
        rfl
      · rcases List.mem_append.mp he with he | he
        · have := w3 e he
          refine ⟨?_, this.2⟩
          rw [upd_ne fun z => by rw [z, w1] at this; cases this.1]
          exact this.1
        · rw [List.mem_singleton.mp he]
          refine ⟨?_, hP⟩
          rw [upd_ne (Ne.symm hDr)]
          exact hr11
      · have hi1 : i + 1 < f.length := (List.getElem?_eq_some_iff.mp he).1
        have := List.pairwise_iff_getElem.mp hsl i (i + 1) (by rw [List.length_map]; omega) (by rw [List.length_map]; omega) (by omega)
        rw [List.getElem_map, List.getElem_map] at this
        have hfi := List.getElem?_eq_getElem hi
        rw [hfe] at hfi
        have hfj := List.getElem?_eq_getElem hi1
        rw [he] at hfj
        rw [← Option.some.inj hfi, ← Option.some.inj hfj] at this
        exact this
    obtain ⟨ah, y6, y7, y8, y9, rfl, x6, hS6, hV6, _⟩ := hp
    rw [List.length_map, List.take_length] at hV6
    refine ⟨_, rfl, _, rfl, L, _, _, _, rfl, rfl, sq_of (x6 _ _ h3), at_last, rfl, _, rfl, iteF ?_⟩
    refine ⟨_, rfl, _, rfl, n, D, f, rfl, n1, n2, hV6, few, hf.nd, fun u H7 ys e7 hys hso hW => q u H7 (x3.trans (x6.trans e7)) ⟨f, ys, hW, ⟨n1, n2, few, hf.nd, fun e he => ?_, hf.vw, hys, hso⟩, Nat.le_refl _, fun t => rfl⟩⟩
    have := (hf.nm e he).2.1
    omega
end
end Eyes

set_option Elab.async false
set_option linter.all false
set_option maxRecDepth 100000
set_option maxHeartbeats 4000000
/-! A row mixed. -/
namespace Eyes
open PySem PySem.Spec PyProof.Rows L2 Evl TL
theorem upd_comm {H : Hp} {a b : Addr} {x y : HO} (h : a ≠ b) : upd (upd H a x) b y = upd (upd H b y) a x := by
  funext c
  by_cases h1 : c = a
  · subst h1
    rw [upd_ne h, upd_same, upd_same]
  · by_cases h2 : c = b
    · subst h2
      rw [upd_same, upd_ne h1, upd_same]
    · rw [upd_ne h2, upd_ne h1, upd_ne h1, upd_ne h2]
theorem seqIx {d : Int} {n : Nat} (h0 : 0 ≤ d) (h1 : d < n) : seqIndex? d n = some d.toNat := by
  have h : ¬ d < 0 := by omega
  unfold seqIndex?
  simp [h, h0, h1]
theorem erase_perm {α : Type} : ∀ {l : List α} {k : Nat} (h : k < l.length), (l[k] :: l.eraseIdx k).Perm l
  | x :: l, 0, _ => List.Perm.refl _
  | x :: l, k + 1, h => (List.Perm.swap x _ _).trans ((erase_perm (l := l) (k := k) (by simpa using h)).cons x)
def spMixed : Sp := fun vs H Q _ => ∃ (b l : Addr) (G : Hp) (xs : List V), vs = [.ref b, .ref l] ∧ At b G H ∧ G l = some (.lst xs) ∧ xs.length ≤ 1000 ∧ ∀ l' ys H', G l' = none → At b (upd G l' (.lst ys)) H' → ys.Perm xs → Q (.ref l') H'
section
variable {P : Program} {w : World} {K : PySem.W.Frag} {mg : Str → Option Value} {base : Heap} {AA : Adr}
theorem ok_law_mixed (T : Txt K mg AA) : Pr P w K mg base "_law_mixed" s_law_mixed p_law_mixed 2 spMixed := by
  refine pr_mk T.f_law_mixed sc_law_mixed (fun vs H Q E h => ?_) (fun f cdv A outer s H vs Q E hr h => ?_)
  · obtain ⟨b, l, G, xs, rfl, _⟩ := h
    rfl
  · obtain ⟨b, l, G, xs, rfl, hA, hl, hz, q⟩ := h
    refine ⟨_, (pss_cons (ps_par (i := 2) (j := 3) rfl sc_law_mixed.nd rfl rfl (by decide) rfl rfl (pa_cons (pe_callTy call_list_of (by rfl) T.n_list PyProof.Rows.boot_list (pa_cons (pv 1) pa_nil)) (pa_cons (pe_lst pa_nil) pa_nil)) rfl)
      (pss_cons (ps_for PassesOwn.never rfl (pi_range1 (by rfl) T.n_range (pa_cons (pe_callB (call_len_seqK (K := K) rfl) (by rfl) T.n_len PySem.boot_len (pa_cons (pv 1) pa_nil)) pa_nil)) (pg_name (i := 4) sc_law_mixed.nd rfl (.inl rfl))
      (pss_one (ps_expr (pe_bm PySem.F.plainAttrs_list PySem.F.slot_list_append PySem.F.type_list_append mt_append (pv 3) (pa_cons (pe_bm PySem.F.plainAttrs_list PySem.F.slot_list_pop PySem.F.type_list_pop mt_popAt (pv 2) (pa_cons (pcall (ok_law_draw T) hr (pa_cons (pv 0) (pa_cons (pe_callB (call_len_seqK (K := K) rfl) (by rfl) T.n_len PySem.boot_len (pa_cons (pv 2) pa_nil)) pa_nil))) pa_nil)) pa_nil)))))
      (pss_one (ps_ret (pv 3))))), ?_⟩
    refine ⟨_, rfl, l, xs, rfl, .inl (sq_of (hA.ex _ _ hl)), fun r hr => ⟨by show 0 ≤ sizeLine; decide, fun f hf => ⟨_, _, rfl, ?_⟩⟩⟩
    have hA1 := hA.new (o := .lst xs) hr
    have hA2 := hA1.new (o := .lst []) hf
    have hrG := hA.nh hr
    have hfG1 := hA1.nh hf
    have nrf : r ≠ f := ne_of_none upd_same hfG1
    have hfG : G f = none := fresh_back (Ex.new hrG) hfG1
    have hl2 : ∀ rs fs, (upd (upd G r (.lst rs)) f (.lst fs)) l = some (.lst xs) := fun rs fs => by
      rw [upd_ne (ne_of_none hl hfG), upd_ne (ne_of_none hl hrG)]
      exact hl
    refine ⟨_, rfl, l, xs, rfl, .inl (sq_of (hA2.ex _ _ (hl2 _ _))), _, rfl, by omega, by omega, ?_⟩
    refine for_it walk_range (fun i σ H' => ∃ (y4 : Option V) (rs fs : List V), σ = [some (.ref b), some (.ref l), some (.ref r), some (.ref f), y4] ∧ At b (upd (upd G r (.lst rs)) f (.lst fs)) H' ∧ rs.length + i = xs.length ∧ fs.length = i ∧ (fs ++ rs).Perm xs) ⟨none, xs, [], rfl, hA2, rfl, rfl, List.Perm.refl _⟩ (fun _ _ _ _ _ => True.intro) (fun i kv σ H4 H5 hi hp hy => ?_) (fun σ H' hp => ?_)
    · obtain ⟨rfl, rfl⟩ := hy
      obtain ⟨y4, rs, fs, rfl, hA3, hrl, hfl, hpm⟩ := hp
      have hi2 : i < xs.length := by omega
      have hr3 : ∀ rs fs, (upd (upd G r (.lst rs)) f (.lst fs)) r = some (.lst rs) := fun rs fs => by rw [upd_ne nrf, upd_same]
      refine ⟨_, rfl, .inl ⟨rfl, fs, sq_of (hA3.ex _ _ upd_same)⟩, _, rfl, .inl ⟨rfl, rs, sq_of (hA3.ex _ _ (hr3 _ _))⟩, _, rfl, _, rfl, r, rs, rfl, .inl (sq_of (hA3.ex _ _ (hr3 _ _))), b, _, _, rfl, hA3, by omega, by omega, fun d H1 d0 d1 hA4 => ?_⟩
      have hdl : d.toNat < rs.length := by omega
      have hA5 : At b (upd (upd G r (.lst (rs.eraseIdx d.toNat))) f (.lst fs)) (upd H1 r (.lst (rs.eraseIdx d.toNat))) := by
        rw [upd_comm nrf] at hA4 ⊢
        exact hA4.put
      refine ⟨r, rs, d, d.toNat, rs[d.toNat], rfl, rfl, hA4.ex _ _ (hr3 _ _), by omega, by omega, seqIx d0 (by omega), List.getElem?_eq_getElem hdl, f, fs, _, rfl, rfl, hA5.ex _ _ upd_same, sz_lt (by omega), _, rs.eraseIdx d.toNat, fs ++ [rs[d.toNat]], rfl, hA5.put, ?_, ?_, ?_⟩
      · rw [List.length_eraseIdx, if_pos hdl]
        omega
      · rw [List.length_append, List.length_singleton, hfl]
      · rw [List.append_assoc]
        exact ((erase_perm hdl).append_left fs).trans hpm
    · obtain ⟨y4, rs, fs, rfl, hA3, hrl, hfl, hpm⟩ := hp
      have hrn : rs = [] := List.length_eq_zero_iff.mp (by omega)
      subst hrn
      rw [List.append_nil] at hpm
      refine ⟨_, rfl, q f fs _ hfG (hA3.weak fun a o z => ?_) hpm⟩
      by_cases ha : a = f
      · subst ha
        rw [upd_same] at z ⊢
        exact z
      · rw [upd_ne ha] at z ⊢
        rw [upd_ne (ne_of_none z hrG)]
        exact z
end
end Eyes

set_option Elab.async false
set_option linter.all false
namespace Eyes
theorem ite_m {k : Bool} {A B R : Prop} (ha : k = true → R → A) (hb : k = false → R → B) (r : R) : if k = true then A else B := by
  cases k with
  | true =>
    rw [if_pos rfl]
    exact ha rfl r
  | false =>
    rw [if_neg Bool.false_ne_true]
    exact hb rfl r
end Eyes

set_option Elab.async false
set_option linter.all false
set_option maxRecDepth 100000
set_option maxHeartbeats 8000000
/-! Same numbers; the part beside the bag. -/
namespace Eyes
open PySem PySem.Spec PyProof.Rows L2 Evl TL
theorem At.allF {b : Addr} {G H0 H : Hp} (h : At b G H0) (e : Ex H0 H) : ∃ G', At b G' H ∧ Ex G G' ∧ (∀ a o, H a = some o → (∀ xs, o ≠ .lst xs) → G' a = some o) ∧ ∀ a o, H0 a = none → H a = some o → G' a = some o := by
  obtain ⟨G', h1, h2, h3⟩ := h.all e
  refine ⟨G', h1, h2, fun a o ha hn => ?_, fun a o hn ha => ?_⟩
  · rw [h3 a fun xs hx => ?_]
    · exact ha
    · have := e _ _ hx
      rw [ha] at this
      exact hn xs (Option.some.inj this)
  · rw [h3 a fun xs hx => by rw [hn] at hx; cases hx]
    exact ha
end Eyes

set_option Elab.async false
set_option linter.all false
set_option maxRecDepth 100000
set_option maxHeartbeats 4000000
/-! Ties in another order, turned, twice: the same partings. -/
namespace Eyes
open PySem PySem.Spec PyProof.Rows L2 Evl TL
theorem kn_same {n : Nat} {ks ls : List Knot} (hk : ∀ k ∈ ks, inK n k) (hl : ∀ k ∈ ls, inK n k) (h1 : ∀ k ∈ ls, k ∈ ks ∨ (k.1, k.2.2, k.2.1) ∈ ks) (h2 : ∀ k ∈ ks, k ∈ ls) (t : Str) : gP n (knotsV n ls) t = gP n (knotsV n ks) t := by
  rw [knotsV_gP, knotsV_gP]
  have hkp := prsK_in (t := t) hk
  have hlp := prsK_in (t := t) hl
  have mem : ∀ {ms : List Knot} {xy : Nat × Nat}, xy ∈ prsK ms t ↔ (t, xy.1, xy.2) ∈ ms := fun {ms xy} => by
    unfold prsK
    rw [List.mem_map]
    constructor
    · rintro ⟨e, he, rfl⟩
      obtain ⟨h1, h2⟩ := List.mem_filter.mp he
      have h2 : e.1 = t := of_decide_eq_true h2
      rw [← h2]
      exact h1
    · intro h
      exact ⟨_, List.mem_filter.mpr ⟨h, decide_eq_true rfl⟩, rfl⟩
  refine mrgs_same (isP_alone n) (isP_alone n) hlp hkp (fun u v u1 u2 v1 v2 a => mrgs_keeps (isP_alone n) hkp ⟨u1, u2⟩ ⟨v1, v2⟩ a) (fun xy hxy => ?_) (fun u v u1 u2 v1 v2 a => mrgs_keeps (isP_alone n) hlp ⟨u1, u2⟩ ⟨v1, v2⟩ a) (fun xy hxy => ?_)
  · rcases h1 _ (mem.mp hxy) with h | h
    · exact mrgs_joins (isP_alone n) hkp (mem.mpr h)
    · exact (mrgs_joins (isP_alone n) hkp (xy := (xy.2, xy.1)) (mem.mpr h)).symm
  · exact mrgs_joins (isP_alone n) hlp (mem.mpr (h2 _ (mem.mp hxy)))
theorem Knots.ofM {G : Hp} {us : List V} {ks : List Knot} (h : Knots G us ks) : ∀ {ys : List V}, (∀ y ∈ ys, y ∈ us) → ∃ ls : List Knot, Knots G ys ls ∧ ls.length = ys.length ∧ ∀ k ∈ ls, k ∈ ks
  | [], _ => ⟨[], ⟨rfl, fun _ _ _ z => nomatch z⟩, rfl, fun _ z => nomatch z⟩
  | y :: ys, hy => by
    obtain ⟨ls, h1, h2, h3⟩ := Knots.ofM h (ys := ys) fun z hz => hy z (.tail _ hz)
    obtain ⟨i, hi⟩ := List.getElem?_of_mem (hy y (.head _))
    have hik : i < ks.length := by
      rw [← h.1]
      exact (List.getElem?_eq_some_iff.mp hi).1
    obtain ⟨p, rfl, hp⟩ := h.2 i y ks[i] hi (List.getElem?_eq_getElem hik)
    refine ⟨ks[i] :: ls, ⟨by rw [List.length_cons, List.length_cons, h1.1], fun j u k e1 e2 => ?_⟩, by rw [List.length_cons, List.length_cons, h2], fun k hk => ?_⟩
    · cases j with
      | zero =>
        cases e1
        cases e2
        exact ⟨p, rfl, hp⟩
      | succ j => exact h1.2 j u k e1 e2
    · rcases List.mem_cons.mp hk with rfl | hk
      · exact List.getElem_mem hik
      · exact h3 k hk
theorem Knots.back {G : Hp} {us ms : List V} {ks ls : List Knot} (h : Knots G us ks) (g : Knots G ms ls) (hm : ∀ u ∈ us, u ∈ ms) : ∀ k ∈ ks, k ∈ ls := fun k hk => by
  obtain ⟨i, hi⟩ := List.getElem?_of_mem hk
  have hiu : i < us.length := by
    rw [h.1]
    exact (List.getElem?_eq_some_iff.mp hi).1
  obtain ⟨p, hp, hpk⟩ := h.2 i us[i] k (List.getElem?_eq_getElem hiu) hi
  obtain ⟨j, hj⟩ := List.getElem?_of_mem (hm _ (List.getElem_mem hiu))
  have hjl : j < ls.length := by
    rw [← g.1]
    exact (List.getElem?_eq_some_iff.mp hj).1
  obtain ⟨p2, hp2, hpl⟩ := g.2 j us[i] ls[j] hj (List.getElem?_eq_getElem hjl)
  rw [hp] at hp2
  cases hp2
  rw [hpk] at hpl
  have e := HO.tup.inj (Option.some.inj hpl)
  have e1 := V.str.inj (List.cons.inj e).1
  have e2 := (List.cons.inj e).2
  have e3 := Int.ofNat.inj (V.int.inj (List.cons.inj e2).1)
  have e4 := Int.ofNat.inj (V.int.inj (List.cons.inj (List.cons.inj e2).2).1)
  have : k = ls[j] := Prod.ext e1 (Prod.ext e3 e4)
  rw [this]
  exact List.getElem_mem hjl
theorem Knots.appK {G : Hp} {us vs : List V} {ks ls : List Knot} (h : Knots G us ks) (g : Knots G vs ls) : Knots G (us ++ vs) (ks ++ ls) := by
  refine ⟨by rw [List.length_append, List.length_append, h.1, g.1], fun i u k h1 h2 => ?_⟩
  by_cases hi : i < us.length
  · rw [List.getElem?_append_left hi] at h1
    rw [List.getElem?_append_left (by rw [← h.1]; exact hi)] at h2
    exact h.2 i u k h1 h2
  · rw [List.getElem?_append_right (by omega)] at h1
    rw [List.getElem?_append_right (by rw [← h.1]; omega), ← h.1] at h2
    exact g.2 _ u k h1 h2
theorem WIs.stands {C : Addr} {H : Hp} {v : V} {n m : Nat} {F : Str → List Nat} (h : WIs C H v n m F) {f : Vw} {ys : List Str} (ok : VwOk n f ys) (e : ∀ t, gP n f t = F t) : WorldAt C H v n (seenV n f ys) := by
  obtain ⟨g, zs, h1, ok2, _, hF⟩ := h
  rw [← seen_canon (f := g) (g := f) (fun t => by rw [hF, e]) ok2.pm ok.pm ok2.nd ok.nd ok2.so ok.so]
  exact h1
theorem WIs.keep {C : Addr} {H G : Hp} {v : V} {n m : Nat} {F : Str → List Nat} (h : WIs C H v n m F) (g : ∀ a o, H a = some o → (∀ xs, o ≠ .lst xs) → G a = some o) : WIs C G v n m F := by
  obtain ⟨f, ys, ⟨p, dx, D, rfl, hp, W, w1, w2, w3⟩, r⟩ := h
  exact ⟨f, ys, ⟨p, dx, D, rfl, g _ _ hp (fun _ => nofun), W, g _ _ w1 (fun _ => nofun), w2, fun e he => ⟨g _ _ (w3 e he).1 (fun _ => nofun), (w3 e he).2⟩⟩, r⟩
theorem VwAt.keepL {H G : Hp} {D : Addr} {n : Nat} {f : Vw} (h : VwAt H D n f) (g : ∀ a o, H a = some o → (∀ xs, o ≠ .lst xs) → G a = some o) : VwAt G D n f := by
  obtain ⟨W, w1, w2, w3⟩ := h
  exact ⟨W, g _ _ w1 (fun _ => nofun), w2, fun e he => ⟨g _ _ (w3 e he).1 (fun _ => nofun), (w3 e he).2⟩⟩
theorem Sd.lstS {H : Hp} {k : Nat} {a b : Addr} {l : List Str} (hl : l.length ≤ 90000) (ha : H a = some (.lst (l.map V.str))) (hb : H b = some (.lst (l.map V.str))) : Sd H (k + 2) (.ref a) (.ref b) :=
  .lst ha hb rfl (by rw [List.length_map]; exact hl) fun i u v e1 e2 => by
    rw [e1] at e2
    cases e2
    rw [List.getElem?_map] at e1
    obtain ⟨y, _, rfl⟩ := Option.map_eq_some_iff.mp e1
    exact .str'
end Eyes

set_option Elab.async false
set_option linter.all false
set_option maxRecDepth 100000
/-! Alike in partings side by side. -/
namespace Eyes
open PySem PySem.Spec PyProof.Rows L2
end Eyes

set_option Elab.async false
set_option linter.all false
set_option maxRecDepth 100000
set_option maxHeartbeats 4000000
/-! Views side by side. -/
namespace Eyes
open PySem PySem.Spec PyProof.Rows L2 Evl TL
theorem gP_out {n : Nat} {f : Vw} {t : Str} (h : t ∉ f.map (·.1)) : gP n f t = alone n := by
  unfold gP
  rw [wGet_none h]
  rfl
end Eyes

set_option Elab.async false
set_option linter.all false
set_option maxRecDepth 100000
set_option maxHeartbeats 4000000
/-! Rows in another order. -/
namespace Eyes
open PySem PySem.Spec PyProof.Rows L2 Evl TL
theorem perm_strs {ys : List V} {l : List Str} (h : ys.Perm (l.map V.str)) : ∃ ns : List Str, ys = ns.map V.str ∧ ns.Perm l := by
  have hall : ∀ y ∈ ys, ∃ s, y = V.str s := fun y hy => by
    obtain ⟨s, _, e⟩ := List.mem_map.mp (h.mem_iff.mp hy)
    exact ⟨s, e.symm⟩
  have hex : ∀ {ys : List V}, (∀ y ∈ ys, ∃ s, y = V.str s) → ∃ ns : List Str, ys = ns.map V.str := fun {ys} => by
    induction ys with
    | nil => exact fun _ => ⟨[], rfl⟩
    | cons y ys ih =>
      intro h
      obtain ⟨s, rfl⟩ := h y (.head _)
      obtain ⟨ns, rfl⟩ := ih fun z hz => h z (.tail _ hz)
      exact ⟨s :: ns, rfl⟩
  obtain ⟨ns, rfl⟩ := hex hall
  refine ⟨ns, rfl, ?_⟩
  have back : ∀ l : List Str, (l.map V.str).filterMap (fun v => match v with | .str s => some s | _ => none) = l := fun l => by
    rw [List.filterMap_map]
    exact List.filterMap_some
  have := h.filterMap fun v => match v with | .str s => some s | _ => none
  rw [back, back] at this
  exact this
theorem vGet_mem {W : List VRow} {t : Str} (h : t ∈ W.map (·.1)) : ∃ e ∈ W, e.1 = t ∧ vGet W t = some e := by
  unfold vGet
  cases hf : W.find? fun e => decide (e.1 = t) with
  | none =>
    obtain ⟨e, he, hx⟩ := List.mem_map.mp h
    have := List.find?_eq_none.mp hf e he
    rw [hx] at this
    exact absurd (decide_eq_true rfl) this
  | some e => exact ⟨e, List.mem_of_find?_eq_some hf, of_decide_eq_true (p := e.1 = t) (List.find?_some (p := fun e : VRow => decide (e.1 = t)) hf), rfl⟩
theorem vW_fst (U : List VRow) : (vW U).map (·.1) = U.map (·.1) := by
  unfold vW
  rw [List.map_map]
  rfl
theorem rows_gP {n : Nat} {U W : List VRow} (hU : (U.map (·.1)).Perm (W.map (·.1))) (hW : (W.map (·.1)).Nodup) (hs : ∀ e ∈ U, e ∈ W) (t : Str) : gP n (vW U) t = gP n (vW W) t := by
  by_cases ht : t ∈ U.map (·.1)
  · obtain ⟨e, he, rfl⟩ := List.mem_map.mp ht
    have h1 : wGet (vW U) e.1 = some e.2.2 := vw_get (e := (e.1, e.2.2)) (by rw [vW_fst]; exact hU.nodup_iff.mpr hW) (List.mem_map.mpr ⟨e, he, rfl⟩)
    have h2 : wGet (vW W) e.1 = some e.2.2 := vw_get (e := (e.1, e.2.2)) (by rw [vW_fst]; exact hW) (List.mem_map.mpr ⟨e, hs e he, rfl⟩)
    unfold gP
    rw [h1, h2]
  · rw [gP_out (by rw [vW_fst]; exact ht), gP_out (by rw [vW_fst]; exact fun z => ht (hU.mem_iff.mpr z))]
theorem vK_names (W : List VRow) : ((vK W).map fun kv => kV kv.1) = (W.map (·.1)).map V.str := by
  unfold vK
  rw [List.map_map, List.map_map]
  rfl
theorem VwOk.seenLen {n : Nat} {f : Vw} {ys : List Str} (h : VwOk n f ys) : (seenV n f ys).length < 64 := Nat.lt_of_le_of_lt (seenV_len h.pm) h.few
theorem Sd.lstB {H : Hp} {k : Nat} {a b : Addr} {l m : List Bool} (e : l = m) (hl : l.length ≤ 90000) (ha : H a = some (.lst (l.map V.bl))) (hb : H b = some (.lst (m.map V.bl))) : Sd H (k + 2) (.ref a) (.ref b) := by
  subst e
  exact .lst ha hb rfl (by rw [List.length_map]; exact hl) fun i u v e1 e2 => by
    rw [e1] at e2
    cases e2
    rw [List.getElem?_map] at e1
    obtain ⟨y, _, rfl⟩ := Option.map_eq_some_iff.mp e1
    exact .bl' rfl
theorem WIsN.keepN {C : Addr} {H0 H G : Hp} {v : V} {n m : Nat} {F : Str → List Nat} (h : WIsN C H0 H v n m F) (g : ∀ a o, H a = some o → (∀ xs, o ≠ .lst xs) → G a = some o) : WIsN C H0 G v n m F := by
  obtain ⟨f, ys, p, dx, D, rfl, h1, h2, h3, ⟨W, w1, w2, w3⟩, h5⟩ := h
  exact ⟨f, ys, p, dx, D, rfl, h1, h2, g _ _ h3 (fun _ => nofun), ⟨W, g _ _ w1 (fun _ => nofun), w2, fun e he => ⟨g _ _ (w3 e he).1 (fun _ => nofun), (w3 e he).2⟩⟩, h5⟩
end Eyes

set_option Elab.async false
set_option linter.all false
set_option maxRecDepth 100000
set_option maxHeartbeats 8000000
/-! The law of worlds from ties: the ways to make one. -/
namespace Eyes
open PySem PySem.Spec PyProof.Rows L2 Evl TL
theorem kws_World_parted_partings_many : KwOkS "parted" "World.parted" s_World_parted p_World_parted ["partings", "many"] [1, 0] := fun _ _ _ _ _ _ ws h => match ws, h with | [_, _], _ => rfl
theorem kwi_World_ties_many : KwHD "__init__" "World.__init__" s_World___init p_World___init ["ties", "many"] [0, 2, 1] := fun _ _ _ _ _ _ _ us its ws h1 h2 h3 => match us, its, ws, h1, h2, h3 with | [_], [_], [_, _], _, _, _ => ⟨_, rfl, rfl⟩
def spWaysSo (CW : Addr) : Sp := fun vs H Q _ => ∃ (b D l : Addr) (G : Hp) (n : Nat) (us : List V) (ks : List Knot), vs = [.ref b, .int (n : Int), .ref D, .ref l] ∧ At b G H ∧ G D = some (.lst us) ∧ Knots G us ks ∧ VwAt G l n (knotsV n ks) ∧ 1 ≤ n ∧ n ≤ 9 ∧ ks.length ≤ 12 ∧ (∀ k ∈ ks, Eyes.nm k.1 ∧ inK n k) ∧ ∀ G' H', Ex G G' → At b G' H' → Q (.bl true) H'
section
variable {P : Program} {w : World} {K : PySem.W.Frag} {mg : Str → Option Value} {base : Heap} {AA : Adr}
theorem ok_World___initK (T : Txt K mg AA) : PrIK P w K mg base AA.World "World.__init__" s_World___init p_World___init 5 (spInitW K AA.World) := prik_mk T.j_World sc_World___init (fun vs H Q E h => world_len h) fun f cdv A outer s H vs Q E hr h => world_body T f cdv A outer s H vs Q E hr h
theorem ok_law_ways_so (T : Txt K mg AA) : Pr P w K mg base "_law_ways_so" s_law_ways_so p_law_ways_so 40 (spWaysSo AA.World) := by
  refine pr_mk T.f_law_ways_so sc_law_ways_so (fun vs H Q E h => ?_) (fun f cdv A outer s H vs Q E hr h => ?_)
  · obtain ⟨b, D, l, G, n, us, ks, rfl, _⟩ := h
    rfl
  · obtain ⟨b, D, l, G, n, us, ks, rfl, hA, hD, hK, hV, n1, n9, hkl, hks, q⟩ := h
    refine ⟨_, (pss_cons (ps_set (i := 4) sc_law_ways_so.nd rfl (.inl rfl) (pcall (ok_law_mixed T) hr (pa_cons (pv 0) (pa_cons (pv 2) pa_nil))))
      (pss_cons (ps_set (i := 8) sc_law_ways_so.nd rfl (.inl rfl) (pe_op op_cat (pv 4) (pe_lc (own := [("_law_x", 5), ("_law_u", 6), ("_law_v", 7)]) (g := gTup K 3 (gCons (gName 5) (gCons (gName 6) (gCons (gName 7) gNil)))) (tt := tYes) rfl sc_law_ways_so.nd (pi_list (pv 2)) (blkOk_by (own := [("_law_x", 5), ("_law_u", 6), ("_law_v", 7)]) (N := n_law_ways_so) (sc := defScope s_law_ways_so) (by decide +kernel)) (fun _ _ _ _ _ => (pg_tup (by rfl) (pgs_cons (pg_name (i := 5) sc_law_ways_so.nd rfl (.inl rfl)) (pgs_cons (pg_name (i := 6) sc_law_ways_so.nd rfl (.inl rfl)) (pgs_cons (pg_name (i := 7) sc_law_ways_so.nd rfl (.inl rfl)) pgs_nil))))) (fun _ _ _ _ _ => pts_nil) (fun _ _ _ _ _ => (pe_tup (pa_cons (pv 5) (pa_cons (pv 7) (pa_cons (pv 6) pa_nil))))))))
      (pss_cons (ps_set (i := 9) sc_law_ways_so.nd rfl (.inr rfl) (pmake T.m_World (ok_World___init T) hr (pa_cons (pv 1) (pa_cons (pv 2) pa_nil))))
      (pss_cons (ps_set (i := 10) sc_law_ways_so.nd rfl (.inl rfl) (pmake0 (K := K) rfl T.m_World (ok_World___init0 T) hr (pa_cons (pv 1) pa_nil)))
      (pss_cons (ps_for PassesOwn.never rfl (pi_list (pv 4)) (pg_tup (by rfl) (pgs_cons (pg_name (i := 5) sc_law_ways_so.nd rfl (.inl rfl)) (pgs_cons (pg_name (i := 6) sc_law_ways_so.nd rfl (.inl rfl)) (pgs_cons (pg_name (i := 7) sc_law_ways_so.nd rfl (.inl rfl)) pgs_nil))))
      (pss_cons (ps_set (i := 11) sc_law_ways_so.nd rfl (.inl rfl) (pmeth0 T.c_World (ok_World_text T) hr (pv 10)))
      (pss_cons (ps_set (i := 12) sc_law_ways_so.nd rfl (.inl rfl) (pe_ifExp (pt_truth (pcall (ok_law_draw T) hr (pa_cons (pv 0) (pa_cons pe_int pa_nil))) (by intro _; rfl)) (pmeth T.c_World (PrMF.m (ok_World_tied T)) hr (pv 10) (pa_cons (pv 5) (pa_cons (pv 6) (pa_cons (pv 7) pa_nil)))) (pmethN0 T.c_World (ok_World_tied T) kwm_World_tied_other_name_one hr (pv 10) (pk_cons (pv 7) (pk_cons (pv 5) (pk_cons (pv 6) pk_nil))))))
      (pss_cons (ps_if (pt_not (pt_val (pcall (ok_law_sd T 12) hr (pa_cons (pmeth0 T.c_World (ok_World_text T) hr (pv 10)) (pa_cons (pv 11) pa_nil)))))
      (pss_one (ps_ret pe_bl))
      pss_nil)
      (pss_one (ps_set (i := 10) sc_law_ways_so.nd rfl (.inl rfl) (pv 12)))))))
      (pss_cons (ps_set (i := 13) sc_law_ways_so.nd rfl (.inl rfl) pe_dnewK)
      (pss_cons (ps_for PassesOwn.never rfl (pi_list (pcall (ok_law_mixed T) hr (pa_cons (pv 0) (pa_cons (pe_callTy (call_list_dK rfl) (by rfl) T.n_list PyProof.Rows.boot_list (pa_cons (pv 3) pa_nil)) pa_nil)))) (pg_name (i := 5) sc_law_ways_so.nd rfl (.inl rfl))
      (pss_one (ps_dput (hu_of hr) (pv 13) (pv 5) (pe_dget (hu_of hr) (pv 3) (pv 5) (fun _ _ => rfl)) rfl)))
      (pss_cons (ps_set (i := 14) sc_law_ways_so.nd rfl (.inl rfl) (pe_callTy (call_list_dK rfl) (by rfl) T.n_list PyProof.Rows.boot_list (pa_cons (pv 13) pa_nil)))
      (pss_cons (ps_set (i := 15) sc_law_ways_so.nd rfl (.inr rfl) (psta (ok_World_partedN T) hr (pe_glob (v := .ref AA.World) (by rfl) T.m_World rfl) (pa_cons (pv 1) (pa_cons (pv 13) pa_nil))))
      (pss_cons (ps_if (pt_not (pt_val (pcall (ok_law_sd T 12) hr (pa_cons (pe_callTy (call_list_dK rfl) (by rfl) T.n_list PyProof.Rows.boot_list (pa_cons (pv 13) pa_nil)) (pa_cons (pv 14) pa_nil)))))
      (pss_one (ps_ret pe_bl))
      pss_nil)
      (pss_cons (ps_set (i := 16) sc_law_ways_so.nd rfl (.inl rfl) (pcall (ok_law_seen T) hr (pa_cons (pv 1) (pa_cons (pv 3) pa_nil))))
      (pss_cons (ps_set (i := 17) sc_law_ways_so.nd rfl (.inl rfl) (pstaN0 (ok_World_partedNF T) kws_World_parted_partings_many hr (pe_glob (v := .ref AA.World) (by rfl) T.m_World rfl) (pk_cons (pv 16) (pk_cons (pv 1) pk_nil))))
      (pss_cons (ps_for PassesOwn.never rfl (pi_list (pv 14)) (pg_name (i := 5) sc_law_ways_so.nd rfl (.inl rfl))
      (pss_one (ps_dput (hu_of hr) (pv 13) (pv 5) (pcall (ok_law_alone T) hr (pa_cons (pv 1) pa_nil)) rfl)))
      (pss_cons (ps_set (i := 18) sc_law_ways_so.nd rfl (.inl rfl) (pe_lst (pa_cons (pv 9) (pa_cons (psta (ok_World_partedN T) hr (pe_glob (v := .ref AA.World) (by rfl) T.m_World rfl) (pa_cons (pv 1) (pa_cons (pmeth0 T.c_World (ok_World_partings T) hr (pv 9)) pa_nil))) (pa_cons (pmake T.m_World (ok_World___init T) hr (pa_cons (pv 1) (pa_cons (pe_callTy call_tuple_of (by rfl) T.n_tuple PyProof.Rows.boot_tuple (pa_cons (pv 4) pa_nil)) pa_nil))) (pa_cons (pmakeN0 T.m_World (ok_World___initK T) kwi_World_ties_many hr (pk_cons (pv 8) (pk_cons (pv 1) pk_nil))) (pa_cons (pv 10) (pa_cons (pv 15) (pa_cons (pv 17) (pa_cons (psta (ok_World_read T) hr (pe_glob (v := .ref AA.World) (by rfl) T.m_World rfl) (pa_cons (pmeth0 T.c_World (ok_World_text T) hr (pv 9)) pa_nil)) pa_nil))))))))))
      (pss_cons (ps_if (pt_not (pt_val (pe_callB (cr_all rfl) (by rfl) T.n_all PyProof.Rows.boot_all (pa_cons (pe_lc (own := [("_law_z", 19)]) (g := gName 19) (tt := tYes) rfl sc_law_ways_so.nd (pi_list (pv 18)) (blkOk_by (own := [("_law_z", 19)]) (N := n_law_ways_so) (sc := defScope s_law_ways_so) (by decide +kernel)) (fun _ _ _ _ _ => (pg_name (i := 19) sc_law_ways_so.nd rfl (.inl rfl))) (fun _ _ _ _ _ => pts_nil) (fun _ _ _ _ _ => (pcall (ok_law_world_so T) hr (pa_cons (pv 19) (pa_cons (pv 1) (pa_cons (pv 3) pa_nil)))))) pa_nil))))
      (pss_one (ps_ret pe_bl))
      pss_nil)
      (pss_one (ps_ret (pe_and (pcall (ok_law_sd T 12) hr (pa_cons (pe_lc (own := [("_law_z", 19)]) (g := gName 19) (tt := tYes) rfl sc_law_ways_so.nd (pi_list (pv 18)) (blkOk_by (own := [("_law_z", 19)]) (N := n_law_ways_so) (sc := defScope s_law_ways_so) (by decide +kernel)) (fun _ _ _ _ _ => (pg_name (i := 19) sc_law_ways_so.nd rfl (.inl rfl))) (fun _ _ _ _ _ => pts_nil) (fun _ _ _ _ _ => (pe_cmpR (op_eqOwnC rfl rfl rfl rfl rfl (ok_World___eqA T) hr (by decide)) (pv 9) (pv 19) (nomark _)))) (pa_cons (pe_op op_rep (pe_lst (pa_cons pe_bl pa_nil)) (pe_callB (call_len_seqK (K := K) rfl) (by rfl) T.n_len PySem.boot_len (pa_cons (pv 18) pa_nil))) pa_nil))) (pe_one (pcall (ok_law_sd T 12) hr (pa_cons (pe_lc (own := [("_law_z", 19)]) (g := gName 19) (tt := tYes) rfl sc_law_ways_so.nd (pi_list (pv 18)) (blkOk_by (own := [("_law_z", 19)]) (N := n_law_ways_so) (sc := defScope s_law_ways_so) (by decide +kernel)) (fun _ _ _ _ _ => (pg_name (i := 19) sc_law_ways_so.nd rfl (.inl rfl))) (fun _ _ _ _ _ => pts_nil) (fun _ _ _ _ _ => (pe_cmpR (op_eqOwnC rfl rfl rfl rfl rfl (ok_World___eqA T) hr (by decide)) (pv 19) (pv 15) (nomark _)))) (pa_cons (pe_op op_rep (pe_lst (pa_cons pe_bl pa_nil)) (pe_callB (call_len_seqK (K := K) rfl) (by rfl) T.n_len PySem.boot_len (pa_cons (pv 18) pa_nil))) pa_nil)))))))))))))))))))))), ?_⟩
    have big : 16777216 ≤ sizeLine := by rw [sizeLine_eq]; decide
    have hul := hK.1
    have tie : ∀ {ms : List Knot}, (∀ k ∈ ms, Eyes.nm k.1 ∧ inK n k) → ∀ k ∈ ms, tieOk n k := fun h k hk => ⟨nm_name (h k hk).1, nm_okS (h k hk).1, (h k hk).2.1, (h k hk).2.2⟩
    -- mixed
    refine ⟨_, rfl, _, rfl, b, D, G, us, rfl, hA, hD, by omega, fun M ms H1 hM hA1 hperm => ?_⟩
    have x1 := Ex.new (o := .lst ms) hM
    have hM1 := upd_same (H := G) (a := M) (o := HO.lst ms)
    generalize upd G M (.lst ms) = G1 at hA1 x1 hM1
    have hK1 := hK.mono x1
    obtain ⟨ls, hL1, hll, hlk⟩ := hK1.ofM (ys := ms) fun y hy => hperm.mem_iff.mp hy
    have hlb := hK1.back hL1 fun u hu => hperm.mem_iff.mpr hu
    have hml := hperm.length_eq
    have k1 := hA1.ex
    have hlks : ∀ k ∈ ls, Eyes.nm k.1 ∧ inK n k := fun k hk => hks k (hlk k hk)
    -- doubled
    refine ⟨_, rfl, _, rfl, D, rfl, ⟨_, sq_of (k1 _ _ (x1 _ _ hD))⟩, fun E2 hE2 => lc_it (walk_list (xs := us)) (fun i H' => H1 E2 = none ∧ Ex H1 H' ∧ ∃ ws, H' E2 = some (.lst ws) ∧ Knots H' ws ((ks.take i).map fun k => (k.1, k.2.2, k.2.1))) ⟨hE2, Ex.new hE2, [], upd_same, rfl, fun i u k h => nomatch h⟩ (fun _ _ _ hp => sq_of (hp.2.1 _ _ (k1 _ _ (x1 _ _ hD)))) (fun i u H2 H3 hi hp hy => ?_) (fun H2 hp => ?_)⟩
    · obtain ⟨rfl, hu⟩ := hy
      obtain ⟨hE0, e2, ws, h2, h3⟩ := hp
      have hik : i < ks.length := by omega
      obtain ⟨p, rfl, hp⟩ := hK1.2 i u ks[i] hu (List.getElem?_eq_getElem hik)
      have hp3 := e2 _ _ (k1 _ _ hp)
      refine ⟨p, _, rfl, st_of hp3, rfl, _, _, rfl, _, _, rfl, _, _, rfl, rfl, rfl, ?_⟩
      refine ⟨_, rfl, _, rfl, _, rfl, by show 3 ≤ sizeLine; decide, fun p2 hp2 => ?_⟩
      have e3 := Ex.new (o := .tup [.str ks[i].1, .int (ks[i].2.2 : Nat), .int (ks[i].2.1 : Nat)]) hp2
      have hq := upd_same (H := H3) (a := p2) (o := HO.tup [.str ks[i].1, .int (ks[i].2.2 : Nat), .int (ks[i].2.1 : Nat)])
      generalize upd H3 p2 _ = H4 at e3 hq ⊢
      have h4 := e3 _ _ h2
      refine ⟨ws, h4, by rw [h3.1, List.length_map, List.length_take]; omega, hE0, (e2.trans e3).mut hE0, ws ++ [.ref p2], upd_same, ?_⟩
      rw [List.take_add_one, List.getElem?_eq_getElem hik, List.map_append]
      exact ((h3.mono e3).snoc (k := (ks[i].1, ks[i].2.2, ks[i].2.1)) hq).put h4
    obtain ⟨hE0, e2, ws, h2, h3⟩ := hp
    rw [List.take_of_length_le (by omega)] at h3
    have hwl := h3.1
    rw [List.length_map] at hwl
    refine ⟨M, E2, ms, ws, rfl, rfl, e2 _ _ (k1 _ _ hM1), h2, by omega, fun DB hDB => ?_⟩
    have e3 := Ex.new (o := .lst (ms ++ ws)) hDB
    have hDB3 := upd_same (H := H2) (a := DB) (o := HO.lst (ms ++ ws))
    have hDBn := fresh_back e2 hDB
    generalize upd H2 DB _ = H3 at e3 hDB3 ⊢
    have e13 := e2.trans e3
    have hKD : Knots H3 (ms ++ ws) (ls ++ ks.map fun k => (k.1, k.2.2, k.2.1)) := ((hL1.mono k1).mono e13).appK (h3.mono e3)
    have hkd : ∀ k ∈ ls ++ ks.map (fun k => (k.1, k.2.2, k.2.1)), Eyes.nm k.1 ∧ inK n k := fun k hk => by
      rcases List.mem_append.mp hk with hk | hk
      · exact hlks k hk
      · obtain ⟨e, he, rfl⟩ := List.mem_map.mp hk
        exact ⟨(hks e he).1, (hks e he).2.2, (hks e he).2.1⟩
    have hdl : (ls ++ ks.map fun k => (k.1, k.2.2, k.2.1)).length ≤ 24 := by
      rw [List.length_append, List.length_map]
      omega
    have hdF : ∀ t, gP n (knotsV n (ls ++ ks.map fun k => (k.1, k.2.2, k.2.1))) t = gP n (knotsV n ks) t := kn_same (fun k hk => (hks k hk).2) (fun k hk => (hkd k hk).2) (fun k hk => by
      rcases List.mem_append.mp hk with hk | hk
      · exact .inl (hlk k hk)
      · obtain ⟨e, he, rfl⟩ := List.mem_map.mp hk
        exact .inr he) fun k hk => List.mem_append_left _ (hlb k hk)
    have hlF : ∀ t, gP n (knotsV n ls) t = gP n (knotsV n ks) t := kn_same (fun k hk => (hks k hk).2) (fun k hk => (hlks k hk).2) (fun k hk => .inl (hlk k hk)) hlb
    generalize ls ++ ks.map (fun k => (k.1, k.2.2, k.2.1)) = kd at hKD hkd hdl hdF
    -- the first world
    have k13 := k1.trans e13
    have hD3 := k13 _ _ (x1 _ _ hD)
    have hK3 := hK1.mono k13
    refine ⟨_, rfl, _, rfl, fun wp wdx hx hdx hxd => ?_⟩
    have eX : Ex H3 (upd (upd H3 wdx (.own wp)) wp (.ins AA.World wdx [])) := (Ex.new hdx).trans (Ex.new ((upd_ne (Ne.symm hxd)).trans hx))
    refine ⟨wp, wdx, D, n, us, ks, H3, rfl, hx, eX, upd_same, .inl (sq_of hD3), hK3, by omega, tie hks, n1, by omega, fun H4 ys e4 hys hso hWd => ⟨rfl, ?_⟩⟩
    clear hx hdx hxd eX
    -- the bare one
    refine fun dd hdd => ⟨_, rfl, fun sp sdx hx hdx hxd => ?_⟩
    have eX : Ex H4 (upd (upd H4 sdx (.own sp)) sp (.ins AA.World sdx [])) := (Ex.new hdx).trans (Ex.new ((upd_ne (Ne.symm hxd)).trans hx))
    refine ⟨sp, sdx, dd, n, [], [], H4, rfl, hx, eX, upd_same, .inr (hdd H4), ⟨rfl, fun i u k h => by cases h⟩, by decide, fun k hk => (nomatch hk), n1, by omega, fun H5 zs e5 hzs hzo hSd => ⟨rfl, ?_⟩⟩
    clear hx hdx hxd eX
    obtain ⟨G5, hA5, x5, gN5, gL5⟩ := hA1.allF (e13.trans (e4.trans e5))
    have hisK : ∀ t, IsP n (gP n (knotsV n ks) t) := hV.isP
    have okK : ∀ {ms : List Knot} {zs : List Str}, ms.length ≤ 24 → (∀ k ∈ ms, Eyes.nm k.1 ∧ inK n k) → zs.Perm ((knotsV n ms).map (·.1)) → sortedS zs = true → VwOk n (knotsV n ms) zs := fun {ms zs} hml hms hp hs => ⟨n1, by omega, Nat.lt_of_le_of_lt (knotsV_len n ms) (by omega), knotsV_nodup n ms, fun e he => by
      obtain ⟨k, hk, hk2⟩ := knotsV_names (List.mem_map.mpr ⟨e, he, rfl⟩)
      have := (hms k hk).1.2.1
      rw [hk2] at this
      omega, fun t => by
      have := isP_mrgs (isP_alone n) (prsK_in (t := t) fun k hk => (hms k hk).2)
      rw [← knotsV_gP] at this
      exact this, hp, hs⟩
    have ok := okK (by omega) hks hys hso
    have hwI : WIs AA.World G5 (.ref wp) n ks.length (gP n (knotsV n ks)) := (show WIs AA.World H5 (.ref wp) n ks.length (gP n (knotsV n ks)) from ⟨_, ys, hWd.mono e5, ok, knotsV_len n ks, fun _ => rfl⟩).keep gN5
    have hsI : WIs AA.World G5 (.ref sp) n 0 (gP n (knotsV n (ls.take 0))) := (show WIs AA.World H5 (.ref sp) n 0 (gP n (knotsV n (ls.take 0))) from ⟨_, zs, hSd, okK (by decide) (fun k hk => nomatch hk) hzs hzo, Nat.le_refl _, fun _ => rfl⟩).keep gN5
    have hDB5 := gL5 _ _ hDBn ((e4.trans e5) _ _ hDB3)
    have hKD5 : Knots G5 (ms ++ ws) kd := ⟨hKD.1, fun i u k h1 h2 => by
      obtain ⟨p, hp, hq⟩ := hKD.2 i u k h1 h2
      exact ⟨p, hp, gN5 _ _ ((e4.trans e5) _ _ hq) (fun _ => nofun)⟩⟩
    have hM5 := x5 _ _ hM1
    have hL5 := hL1.mono x5
    have hV5 := hV.mono (x1.trans x5)
    have hD5 := x5 _ _ (x1 _ _ hD)
    have hK5 := hK1.mono x5
    have q : ∀ G' H', Ex G5 G' → At b G' H' → Q (.bl true) H' := fun G' H' x y => q G' H' (x1.trans (x5.trans x)) y
    clear hA hA1 k1 k13 hD3 hK3 e2 e3 e13 e4 e5 h2 h3 hE0 hE2 hDB hDBn hDB3 hKD hWd hSd hzs hzo gN5 gL5 x1 x5 hM1 hL1 hK1 hV hD hK hM
    -- step by step
    refine ⟨_, rfl, M, rfl, ⟨_, sq_of (hA5.ex _ _ hM5)⟩, ?_⟩
    refine for_list (xs := ms) (fun i σ H' => ∃ (G' : Hp) (st : V) (y5 y6 y7 y11 y12 : Option V), σ = [some (.ref b), some (.int (n : Int)), some (.ref D), some (.ref l), some (.ref M), y5, y6, y7, some (.ref DB), some (.ref wp), some st, y11, y12, none, none, none, none, none, none, none] ∧ At b G' H' ∧ Ex G5 G' ∧ WIs AA.World G' st n i (gP n (knotsV n (ls.take i)))) ⟨G5, .ref sp, none, none, none, none, none, rfl, hA5, Ex.refl _, hsI⟩ (fun i σ H' _ hp => ?_) (fun i u σ H6 hu hp => ?_) (fun σ H6 hp => ?_)
    · obtain ⟨G', _, _, _, _, _, _, _, hA, nn, _⟩ := hp
      exact sq_of (hA.ex _ _ (nn _ _ hM5))
    · obtain ⟨G', st, y5, y6, y7, y11, y12, rfl, hA6, x6, hst⟩ := hp
      have him : i < ms.length := (List.getElem?_eq_some_iff.mp hu).1
      have hil : i < ls.length := by omega
      obtain ⟨p, rfl, hp⟩ := hL5.2 i u ls[i] hu (List.getElem?_eq_getElem hil)
      have hk := hlks _ (List.getElem_mem hil)
      have hget : ls[i]? = some ls[i] := List.getElem?_eq_getElem hil
      generalize ls[i] = kn at hp hk hget
      have kk := hA6.ex
      have hp6 := kk _ _ (x6 _ _ hp)
      refine ⟨p, _, rfl, st_of hp6, rfl, _, _, rfl, _, _, rfl, _, _, rfl, rfl, ?_⟩
      obtain ⟨f', zs', ⟨sp', sdx', sD', rfl, hsp', hsV'⟩, ok', hlf', hF'⟩ := id hst
      have hstG : WorldAt AA.World G' (.ref sp') n (seenV n f' zs') := ⟨sp', sdx', sD', rfl, hsp', hsV'⟩
      refine ⟨_, rfl, sp', sdx', _, rfl, kk _ _ hsp', wf_no (by decide +kernel) (by decide +kernel), .ref sp', n, _, rfl, ok'.fewV, hstG.mono kk, fun H7 e7 => ?_⟩
      have hA7 := hA6.mono e7
      refine ⟨_, rfl, b, 2, G', rfl, hA7, by decide, by decide, fun k8 H8 _ _ hA8 => ⟨_, rfl, ?_⟩⟩
      have k8 := hA8.ex
      have hm1 : i + 1 < 64 := by omega
      apply ite_m
      · intro _ s
        exact ⟨_, rfl, sp', sdx', _, rfl, k8 _ _ hsp', wf_no (by decide +kernel) (by decide +kernel), _, rfl, _, rfl, _, rfl, .ref sp', kn.1, kn.2.1, kn.2.2, n, i, _, rfl, hst.mono k8, hk.1, hm1, hk.2.1, hk.2.2, s⟩
      · intro _ s
        exact ⟨_, rfl, sp', sdx', _, rfl, k8 _ _ hsp', wf_no (by decide +kernel) (by decide +kernel), _, rfl, _, rfl, _, rfl, rfl, .ref sp', kn.1, kn.2.1, kn.2.2, n, i, _, rfl, hst.mono k8, hk.1, hm1, hk.2.1, hk.2.2, s⟩
      intro u H9 e9 hU
      have k89 := k8.trans e9
      refine ⟨_, rfl, sp', sdx', _, rfl, k89 _ _ hsp', wf_no (by decide +kernel) (by decide +kernel), .ref sp', n, _, rfl, ok'.fewV, hstG.mono k89, fun H10 e10 => ⟨_, rfl, _, _, rfl, .str', fun H11 e11 => ⟨_, rfl, iteF ?_⟩⟩⟩
      obtain ⟨G11, hA11, x11, gN11, _⟩ := hA8.allF (e9.trans (e10.trans e11))
      have hF1 : ∀ t, (if t = kn.1 then mrg1 (gP n (knotsV n (ls.take i)) kn.1) kn.2.1 kn.2.2 else gP n (knotsV n (ls.take i)) t) = gP n (knotsV n (ls.take (i + 1))) t := fun t => by
        rw [List.take_add_one, hget]
        show _ = gP n (knotsV n (ls.take i ++ [kn])) t
        rw [knotsV_snoc]
        show _ = (wGet (wPut (knotsV n (ls.take i)) kn.1 (mrg1 (gP n (knotsV n (ls.take i)) kn.1) kn.2.1 kn.2.2)) t).getD (alone n)
        rw [wGet_put]
        by_cases e : t = kn.1
        · rw [if_pos e, if_pos e]
          rfl
        · rw [if_neg e, if_neg e]
          rfl
      refine ⟨_, rfl, G11, u, _, _, _, _, _, rfl, hA11, x6.trans x11, ?_⟩
      obtain ⟨g1, g2, g3, g4, g5, g6⟩ := hU.mono (e10.trans e11)
      exact (show WIs AA.World H11 u n (i + 1) (gP n (knotsV n (ls.take (i + 1)))) from ⟨g1, g2, g3, g4, g5, fun t => (g6 t).trans (hF1 t)⟩).keep gN11
    obtain ⟨G6, st, y5, y6, y7, y11, y12, rfl, hA6, x6, hst⟩ := hp
    rw [List.take_of_length_le (by omega)] at hst
    -- the table
    obtain ⟨Wv, w1, w2, w3⟩ := id hV5
    have hfst : (knotsV n ks).map (·.1) = Wv.map (·.1) := by rw [← w2, vW_fst]
    have hWn : (Wv.map (·.1)).Nodup := by
      rw [← hfst]
      exact ok.nd
    have hWl : (Wv.map (·.1)).length ≤ 12 := by
      rw [← hfst, List.length_map]
      exact Nat.le_trans (knotsV_len n ks) hkl
    refine fun T hT => ?_
    have hA7 := hA6.new (o := .dK []) hT
    have hT7 := upd_same (H := G6) (a := T) (o := HO.dK [])
    have hGT : G6 T = none := hA6.nh hT
    have x7 : Ex G6 (upd G6 T (.dK [])) := Ex.new hGT
    generalize upd G6 T (.dK []) = G7 at hA7 hT7 x7
    generalize upd H6 T (.dK []) = H7 at hA7 ⊢
    refine ⟨_, rfl, _, rfl, l, vK Wv, rfl, hA7.ex _ _ (x7 _ _ (x6 _ _ w1)), fun L hL => ?_⟩
    rw [vK_names]
    refine ⟨b, L, _, _, rfl, hA7.new hL, upd_same, by rw [List.length_map]; omega, fun M2 ys2 H9 hM2 hA9 hperm => ?_⟩
    obtain ⟨ns, rfl, hns⟩ := perm_strs hperm
    have x9 : Ex G7 (upd (upd G7 L (.lst ((Wv.map (·.1)).map V.str))) M2 (.lst (ns.map V.str))) := (Ex.new (hA7.nh hL)).trans (Ex.new hM2)
    have hM9 := upd_same (H := upd G7 L (.lst ((Wv.map (·.1)).map V.str))) (a := M2) (o := HO.lst (ns.map V.str))
    generalize upd (upd G7 L (.lst ((Wv.map (·.1)).map V.str))) M2 (.lst (ns.map V.str)) = G9 at hA9 x9 hM9
    have hT9 := x9 _ _ hT7
    have hnn : ns.Nodup := hns.nodup_iff.mpr hWn
    have hnl : ns.length ≤ 12 := by
      rw [hns.length_eq]
      exact hWl
    refine ⟨M2, rfl, ⟨_, sq_of (hA9.ex _ _ hM9)⟩, ?_⟩
    refine for_list (xs := ns.map V.str) (fun i σ H' => ∃ (G' : Hp) (U : List VRow) (y5 : Option V), σ = [some (.ref b), some (.int (n : Int)), some (.ref D), some (.ref l), some (.ref M), y5, y6, y7, some (.ref DB), some (.ref wp), some st, y11, y12, some (.ref T), none, none, none, none, none, none] ∧ At b G' H' ∧ Ex G6 G' ∧ G' M2 = some (.lst (ns.map V.str)) ∧ G' T = some (.dK (vK U)) ∧ U.map (·.1) = ns.take i ∧ ∀ e ∈ U, e ∈ Wv) ⟨G9, [], y5, rfl, hA9, x7.trans x9, hM9, hT9, rfl, fun e he => nomatch he⟩ (fun i σ H' _ hp => ?_) (fun i u σ H10 hu hp => ?_) (fun σ H10 hp => ?_)
    · obtain ⟨G', U, _, _, hA, _, hm, _⟩ := hp
      exact sq_of (hA.ex _ _ hm)
    · obtain ⟨G', U, y5, rfl, hA, x, hm, ht, hU1, hU2⟩ := hp
      rw [List.getElem?_map] at hu
      obtain ⟨t, ht2, rfl⟩ := Option.map_eq_some_iff.mp hu
      obtain ⟨e, he, rfl, hg⟩ := vGet_mem (hns.mem_iff.mp (List.mem_of_getElem? ht2))
      have hget : valV (vK Wv) (.inr e.1) = some (.ref e.2.1) := by
        rw [vK_get, hg]
        rfl
      have hout : ∀ z ∈ U, z.1 ≠ e.1 := fun z hz hze => by
        have h1 : e.1 ∈ ns.take i := by
          rw [← hU1, ← hze]
          exact List.mem_map.mpr ⟨z, hz, rfl⟩
        obtain ⟨j, hj, hj2⟩ := List.getElem_of_mem h1
        rw [List.getElem_take] at hj2
        have hi := (List.getElem?_eq_some_iff.mp ht2)
        rw [List.length_take] at hj
        have := (List.getElem_inj hnn).mp (hj2.trans hi.2.symm)
        omega
      have hUl : (vK U).length ≤ 12 := by
        have := congrArg List.length hU1
        rw [List.length_map, List.length_take] at this
        show (U.map _).length ≤ 12
        rw [List.length_map]
        omega
      refine ⟨_, rfl, _, rfl, l, .ref e.2.1, rfl, by rw [← hget]; exact DGet.k (k := .inr e.1) (hA.ex _ _ (x _ _ (x6 _ _ w1))), _, rfl, _, rfl, T, _, rfl, DPut.k (k := .inr e.1) (hA.ex _ _ ht) (by omega), ?_⟩
      rw [vK_put (p := e.2.2), vPut_new hout]
      refine ⟨upd G' T (.dK (vK (U ++ [e]))), U ++ [e], _, rfl, hA.put' ht, x.mut hGT, (upd_ne fun z => ?_).trans hm, upd_same, ?_, fun z hz => ?_⟩
      · rw [z, ht] at hm
        cases hm
      · rw [List.map_append, hU1, List.take_add_one, ht2]
        rfl
      · rcases List.mem_append.mp hz with hz | hz
        · exact hU2 z hz
        · rw [List.mem_singleton.mp hz]
          exact he
    obtain ⟨G10, U, y5, rfl, hA10, x10, hM10, hT10, hU1, hU2⟩ := hp
    rw [List.take_of_length_le (by rw [List.length_map]; exact Nat.le_refl _)] at hU1
    have hUl : (vK U).length ≤ 12 := by
      have := congrArg List.length hU1
      rw [List.length_map] at this
      show (U.map _).length ≤ 12
      rw [List.length_map]
      omega
    have hUp : (U.map (·.1)).Perm (Wv.map (·.1)) := by
      rw [hU1]
      exact hns
    have hUg : ∀ t, gP n (vW U) t = gP n (knotsV n ks) t := fun t => by
      rw [rows_gP hUp hWn hU2, w2]
    -- what it holds
    refine ⟨_, rfl, T, vK U, rfl, hA10.ex _ _ hT10, fun KL hKL => ?_⟩
    rw [vK_names, hU1]
    have hA11 := hA10.new (o := .lst (ns.map V.str)) hKL
    have x11 : Ex G10 (upd G10 KL (.lst (ns.map V.str))) := Ex.new (hA10.nh hKL)
    have hK11 := upd_same (H := G10) (a := KL) (o := HO.lst (ns.map V.str))
    generalize upd G10 KL (.lst (ns.map V.str)) = G11 at hA11 x11 hK11
    generalize upd H10 KL (.lst (ns.map V.str)) = H11 at hA11 ⊢
    have hT11 := x11 _ _ hT10
    have xA := x6.trans (x10.trans x11)
    have hVU : VwAt G11 T n (vW U) := ⟨U, hT11, rfl, fun e he => ⟨xA _ _ (w3 e (hU2 e he)).1, (w3 e (hU2 e he)).2⟩⟩
    have hUnm : ∀ t ∈ (vW U).map (·.1), Eyes.nm t := fun t ht => by
      rw [vW_fst] at ht
      have ht := hUp.mem_iff.mp ht
      rw [← hfst] at ht
      obtain ⟨k, hk, hk2⟩ := knotsV_names ht
      rw [← hk2]
      exact (hks k hk).1
    have hpreU : VwPre n (vW U) := ⟨n1, by omega, by rw [vW_fst]; exact hUp.nodup_iff.mpr hWn, fun e he => by
      have := (hUnm e.1 (List.mem_map.mpr ⟨e, he, rfl⟩)).2.1
      omega, fun t => by
      rw [hUg]
      exact hisK t⟩
    have hUl2 : (vW U).length ≤ 12 := by
      have : (vW U).length = (vK U).length := by
        unfold vW vK
        rw [List.length_map, List.length_map]
      omega
    refine ⟨rfl, _, rfl, _, rfl, T, n, vW U, rfl, hVU.mono hA11.ex, hpreU, hUnm, by omega, fun br H12 e12 hbr => ?_⟩
    obtain ⟨G12, hA12, x12, gN12, gL12⟩ := hA11.allF e12
    have hbr := (hbr.back hA11.ex).keepN gN12
    have hT12 := x12 _ _ hT11
    refine ⟨_, rfl, T, vK U, rfl, hA12.ex _ _ hT12, fun LL hLL => ?_⟩
    rw [vK_names, hU1]
    have hA13 := hA12.new (o := .lst (ns.map V.str)) hLL
    have x13 : Ex G12 (upd G12 LL (.lst (ns.map V.str))) := Ex.new (hA12.nh hLL)
    have hL13 := upd_same (H := G12) (a := LL) (o := HO.lst (ns.map V.str))
    generalize upd G12 LL (.lst (ns.map V.str)) = G13 at hA13 x13 hL13
    generalize upd H12 LL (.lst (ns.map V.str)) = H13 at hA13 ⊢
    refine ⟨_, rfl, _, _, rfl, Sd.lstS (by omega) (hA13.ex _ _ hL13) (hA13.ex _ _ (x13 _ _ (x12 _ _ hK11))), fun H14 e14 => ⟨_, rfl, iteF ?_⟩⟩
    obtain ⟨G14, hA14, x14, gN14, _⟩ := hA13.allF e14
    have xB := xA.trans (x12.trans (x13.trans x14))
    refine ⟨_, rfl, _, rfl, n, l, knotsV n ks, rfl, by omega, (hV5.mono xB).mono hA14.ex, ok.few, ok.nd, fun SD H15 zs e15 hSD hzs hzo hVS => ?_⟩
    obtain ⟨G15, hA15, x15, gN15, _⟩ := hA14.allF e15
    have okZ := okK (by omega) hks hzs hzo
    have hseenN : ∀ t ∈ (seenV n (knotsV n ks) zs).map (·.1), Eyes.nm t := fun t ht => by
      obtain ⟨k, hk, hk2⟩ := knotsV_names (seenV_sub hzs ht)
      rw [← hk2]
      exact (hks k hk).1
    refine ⟨rfl, _, rfl, _, rfl, rfl, SD, n, _, rfl, hVS, okZ.seen, hseenN, okZ.seenLen, fun fw H16 e16 hfw => ?_⟩
    obtain ⟨G16, hA16, x16, gN16, _⟩ := hA15.allF e16
    have hfw := (hfw.back hA15.ex).keepN gN16
    have xC := x12.trans (x13.trans (x14.trans (x15.trans x16)))
    have hbr := hbr.mono (x13.trans (x14.trans (x15.trans x16)))
    have hT15 := (x12.trans (x13.trans (x14.trans x15))) _ _ hT11
    have hT16 := x16 _ _ hT15
    have hK16 := xC _ _ hK11
    -- the table changes
    refine ⟨_, rfl, KL, rfl, ⟨_, sq_of (hA16.ex _ _ hK16)⟩, ?_⟩
    refine for_list (xs := ns.map V.str) (fun i σ H' => ∃ (G' : Hp) (kvs : List (L2.Key × V)) (y5 : Option V), σ = [some (.ref b), some (.int (n : Int)), some (.ref D), some (.ref l), some (.ref M), y5, y6, y7, some (.ref DB), some (.ref wp), some st, y11, y12, some (.ref T), some (.ref KL), some br, some (.ref SD), some fw, none, none] ∧ At b G' H' ∧ Ex G6 G' ∧ G' KL = some (.lst (ns.map V.str)) ∧ G' T = some (.dK kvs) ∧ kvs.length ≤ 12 + i ∧ WIsN AA.World G11 G' br n (vW U).length (gP n (vW U)) ∧ WIsN AA.World G15 G' fw n (seenV n (knotsV n ks) zs).length (gP n (seenV n (knotsV n ks) zs))) ⟨G16, vK U, y5, rfl, hA16, x10.trans (x11.trans xC), hK16, hT16, hUl, hbr, hfw⟩ (fun i σ H' _ hp => ?_) (fun i u σ H17 hu hp => ?_) (fun σ H17 hp => ?_)
    · obtain ⟨G', _, _, _, hA, _, hm, _⟩ := hp
      exact sq_of (hA.ex _ _ hm)
    · obtain ⟨G', kvs, y5, rfl, hA, x, hm, ht, hkv, hb, hf⟩ := hp
      rw [List.getElem?_map] at hu
      obtain ⟨t, ht2, rfl⟩ := Option.map_eq_some_iff.mp hu
      have hi := (List.getElem?_eq_some_iff.mp ht2).1
      refine ⟨_, rfl, n, rfl, by omega, fun pa hpa => ?_⟩
      have hA2 := hA.new (o := .tup (nvs (alone n))) hpa
      have x2 : Ex G' (upd G' pa (.tup (nvs (alone n)))) := Ex.new (hA.nh hpa)
      generalize upd G' pa (.tup (nvs (alone n))) = G2 at hA2 x2
      generalize upd H17 pa (.tup (nvs (alone n))) = H2 at hA2 ⊢
      have ht3 := x2 _ _ ht
      refine ⟨_, rfl, _, rfl, T, _, rfl, DPut.k (k := .inr t) (hA2.ex _ _ ht3) (by omega), ?_⟩
      refine ⟨upd G2 T (.dK (putK kvs (.inr t) (.ref pa))), _, _, rfl, hA2.put' ht3, (x.trans x2).mut hGT, (upd_ne fun z => ?_).trans (x2 _ _ hm), upd_same, ?_, (hb.mono x2).put hT11 ht3, (hf.mono x2).put hT15 ht3⟩
      · rw [z, ht] at hm
        cases hm
      · unfold putK
        split
        · rw [List.length_map]
          omega
        · rw [List.length_append]
          show kvs.length + 1 ≤ _
          omega
    obtain ⟨G17, _, y5, rfl, hA17, x17, _, _, _, hbr, hfw⟩ := hp
    have hbr := hbr.is
    have hfw := hfw.is
    have k17 := hA17.ex
    clear hA7 hA9 hA10 hA11 hA12 hA13 hA14 hA15 hA16 hT16 hT15 hK16
    have x517 := x6.trans x17
    have hSnm : ∀ t ∈ (seenV n (knotsV n ks) ys).map (·.1), Eyes.nm t := fun t ht => by
      obtain ⟨k, hk, hk2⟩ := knotsV_names (seenV_sub hys ht)
      rw [← hk2]
      exact (hks k hk).1
    have hrd : RdOk n (seenV n (knotsV n ks) ys) := ⟨n1, by omega, ok.seenLen, fun e he => hSnm e.1 (List.mem_map.mpr ⟨e, he, rfl⟩), fun e he => by
      rw [seenV_filter] at he
      obtain ⟨t, ht, rfl⟩ := List.mem_map.mp he
      exact ⟨hisK t, of_decide_eq_true (List.mem_filter.mp ht).2⟩, (seen_cn hys ok.nd hso).1, (seen_cn hys ok.nd hso).2⟩
    have hcn : CnV (seenV n (knotsV n ks) ys) := seen_cn hys ok.nd hso
    have hgP : ∀ t, gP n (seenV n (knotsV n ks) ys) t = gP n (knotsV n ks) t := seen_gP hys
    have hpS := ok.seen
    have hlS := ok.seenLen
    have stands : ∀ {H : Hp} {v : V} {m : Nat} {F : Str → List Nat}, WIs AA.World H v n m F → (∀ t, F t = gP n (knotsV n ks) t) → WorldAt AA.World H v n (seenV n (knotsV n ks) ys) := fun h e => h.stands ok fun t => (e t).symm
    have hw := stands ((hwI.mono x517).mono k17) fun _ => rfl
    have h5 := stands ((hst.mono x17).mono k17) hlF
    have h6 := stands (hbr.mono k17) hUg
    have h7 := stands (hfw.mono k17) fun t => seen_gP hzs t
    have hfew := ok.fewV
    have okS : ∀ {H : Hp} {v : V}, WorldAt AA.World H v n (seenV n (knotsV n ks) ys) → VwOk n (knotsV n ks) ys := fun _ => ok
    generalize hS : seenV n (knotsV n ks) ys = S at *
    obtain ⟨wp', wdx, wD, heq, hwp, hwV⟩ := id hw
    cases heq
    refine ⟨_, rfl, rfl, _, rfl, _, rfl, wp, wdx, _, rfl, hwp, wf_no (by decide +kernel) (by decide +kernel), .ref wp, n, S, rfl, hw, fun PD H18 e18 hPD hPV => ⟨PD, n, S, rfl, hPV, hpS, hSnm, hlS, fun u2 H19 e19 hu2 => ?_⟩⟩
    have k19 := e18.trans e19
    refine ⟨_, rfl, _, rfl, M, ms, rfl, .inl ⟨sq_of ((k17.trans k19) _ _ (x517 _ _ hM5)), fun TP hTP => ?_⟩⟩
    have eT := Ex.new (o := .tup ms) hTP
    have hTt := upd_same (H := H19) (a := TP) (o := HO.tup ms)
    generalize upd H19 TP (.tup ms) = H20 at eT hTt ⊢
    refine fun xp xdx hx hdx hxd => ?_
    have eX : Ex H20 (upd (upd H20 xdx (.own xp)) xp (.ins AA.World xdx [])) := (Ex.new hdx).trans (Ex.new ((upd_ne (Ne.symm hxd)).trans hx))
    refine ⟨xp, xdx, TP, n, ms, ls, H20, rfl, hx, eX, upd_same, .inr (st_of hTt), ((hL5.mono x517).mono k17).mono (k19.trans eT), by omega, tie hlks, n1, by omega, fun H21 z3 e21 hz3 hs3 hW3 => ⟨rfl, ?_⟩⟩
    clear hx hdx hxd eX
    refine ⟨_, rfl, _, rfl, rfl, rfl, fun xq xdx2 hx hdx hxd => ?_⟩
    have eX : Ex H21 (upd (upd H21 xdx2 (.own xq)) xq (.ins AA.World xdx2 [])) := (Ex.new hdx).trans (Ex.new ((upd_ne (Ne.symm hxd)).trans hx))
    have k21 := k19.trans (eT.trans e21)
    refine ⟨xq, xdx2, DB, n, ms ++ ws, kd, H21, rfl, hx, eX, upd_same, .inl (sq_of ((k17.trans k21) _ _ (x517 _ _ hDB5))), ((hKD5.mono x517).mono k17).mono k21, by omega, tie hkd, n1, by omega, fun H22 z4 e22 hz4 hs4 hW4 => ⟨rfl, ?_⟩⟩
    clear hx hdx hxd eX
    have k22 := k21.trans e22
    refine ⟨_, rfl, _, rfl, _, rfl, rfl, _, rfl, wp, wdx, _, rfl, k22 _ _ hwp, wf_no (by decide +kernel) (by decide +kernel), .ref wp, n, S, rfl, hfew, hw.mono k22, fun H23 e23 => ⟨n, S, rfl, hrd, fun u8 H24 e24 hu8 => ?_⟩⟩
    refine ⟨by show 8 ≤ sizeLine; decide, fun TL hTL => ?_⟩
    have k24 := k22.trans (e23.trans e24)
    have same3 : ∀ {ms : List Knot} {zs : List Str}, zs.Perm ((knotsV n ms).map (·.1)) → sortedS zs = true → ms.length ≤ 24 → (∀ k ∈ ms, Eyes.nm k.1 ∧ inK n k) → (∀ t, gP n (knotsV n ms) t = gP n (knotsV n ks) t) → ∀ {H : Hp} {v : V}, WorldAt AA.World H v n (seenV n (knotsV n ms) zs) → WorldAt AA.World H v n S := fun {ms zs} h1 h2 h3 h4 h5 {H v} h6 => stands (m := (knotsV n ms).length) ⟨_, zs, h6, okK h3 h4 h1 h2, Nat.le_refl _, fun _ => rfl⟩ h5
    have hall : ∀ z ∈ [.ref wp, u2, .ref xp, .ref xq, st, br, fw, u8], WorldAt AA.World (upd H24 TL (.lst [.ref wp, u2, .ref xp, .ref xq, st, br, fw, u8])) z n S := fun z hz => by
      have eL : Ex H24 (upd H24 TL (.lst [.ref wp, u2, .ref xp, .ref xq, st, br, fw, u8])) := Ex.new hTL
      have kL := k24.trans eL
      simp only [List.mem_cons, List.not_mem_nil, or_false] at hz
      rcases hz with rfl | rfl | rfl | rfl | rfl | rfl | rfl | rfl
      · exact hw.mono kL
      · exact (stands hu2.is hgP).mono ((eT.trans (e21.trans (e22.trans (e23.trans e24)))).trans eL)
      · exact (same3 hz3 hs3 (by omega) hlks hlF hW3).mono ((e22.trans (e23.trans e24)).trans eL)
      · exact (same3 hz4 hs4 hdl hkd hdF hW4).mono ((e23.trans e24).trans eL)
      · exact h5.mono kL
      · exact h6.mono kL
      · exact h7.mono kL
      · exact (stands hu8 hgP).mono eL
    have hTl := upd_same (H := H24) (a := TL) (o := HO.lst [.ref wp, u2, .ref xp, .ref xq, st, br, fw, u8])
    have hw25 := hall _ (.head _)
    have hb25 := hall br (by simp)
    have hV25 := (((hV5.mono x517).mono k17).mono k24).mono (Ex.new (o := .lst [.ref wp, u2, .ref xp, .ref xq, st, br, fw, u8]) hTL)
    have q25 : ∀ H', Ex (upd H24 TL (.lst [.ref wp, u2, .ref xp, .ref xq, st, br, fw, u8])) H' → Q (.bl true) H' := fun H' x => q G17 H' x517 ((hA17.mono k24).mono ((Ex.new hTL).trans x))
    have h8 : [V.ref wp, u2, V.ref xp, V.ref xq, st, br, fw, u8].length = 8 := rfl
    generalize [V.ref wp, u2, .ref xp, .ref xq, st, br, fw, u8] = told at *
    generalize upd H24 TL (.lst told) = H25 at *
    clear hTL k24 same3 hw h5 h6 h7 e23 e24 k22 e22 e21 k21 hu8 hu2 hW3 hW4 hst hwI hsI hbr hfw
    -- each is so
    refine ⟨_, rfl, TL, rfl, ⟨_, sq_of hTl⟩, fun E2 hE2 => lc_it (walk_list (xs := told)) (fun i H' => H25 E2 = none ∧ Ex H25 H' ∧ H' E2 = some (.lst ((List.replicate i true).map V.bl))) ⟨hE2, Ex.new hE2, upd_same⟩ (fun _ _ _ hp => sq_of (hp.2.1 _ _ hTl)) (fun i u H2 H3 hi hp hy => ?_) (fun H2 hp => ?_)⟩
    · obtain ⟨rfl, hu⟩ := hy
      obtain ⟨hE0, e2, h2⟩ := hp
      have hz := hall u (List.mem_of_getElem? hu)
      refine ⟨rfl, _, rfl, _, rfl, _, rfl, u, l, n, knotsV n ks, ys, rfl, by rw [hS]; exact hz.mono e2, hV25.mono e2, ok, fun H4 e4 => ⟨_, e4 _ _ h2, ?_, hE0, (e2.trans e4).mut hE0, ?_⟩⟩
      · rw [List.length_map, List.length_replicate]
        exact sz_lt (by omega)
      · rw [upd_same, List.replicate_succ', List.map_append]
        rfl
    obtain ⟨hE0, e2, h2⟩ := hp
    rw [h8] at h2
    refine ⟨E2, List.replicate 8 true, rfl, sq_of h2, _, rfl, iteF ?_⟩
    have hTl := e2 _ _ hTl
    have hall := fun z hz => (hall z hz).mono e2
    have hb25 := hb25.mono e2
    have q25 : ∀ H', Ex H2 H' → Q (.bl true) H' := fun H' x => q25 H' (e2.trans x)
    have hw25 := hw25.mono e2
    clear h2 hE0 hE2 e2 hV25
    have eqW : ∀ {H : Hp} {x y : V}, WorldAt AA.World H x n S → WorldAt AA.World H y n S → ∀ {R : VK}, R (.bl true) H → rEqOwn K AA.World (spEqAll AA.World) x y H R := fun {H x y} hx hy R r => by
      obtain ⟨p, dx, D, rfl, h1, h2⟩ := id hx
      obtain ⟨p2, dx2, D2, rfl, h3, h4⟩ := id hy
      refine ⟨p, dx, _, rfl, h1, .inr (.inr ⟨p2, dx2, _, rfl, h3⟩), .ref p, .ref p2, n, S, rfl, by omega, hx, .inl ⟨n, S, by omega, hy, hcn, hcn, ?_⟩⟩
      rw [decide_eq_true ⟨rfl, rfl⟩]
      exact r
    refine ⟨_, rfl, TL, rfl, ⟨_, sq_of hTl⟩, fun E3 hE3 => lc_it (walk_list (xs := told)) (fun i H' => H2 E3 = none ∧ Ex H2 H' ∧ H' E3 = some (.lst ((List.replicate i true).map V.bl))) ⟨hE3, Ex.new hE3, upd_same⟩ (fun _ _ _ hp => sq_of (hp.2.1 _ _ hTl)) (fun i u H4 H5 hi hp hy => ?_) (fun H4 hp => ?_)⟩
    · obtain ⟨rfl, hu⟩ := hy
      obtain ⟨hE0, e2, h2⟩ := hp
      refine ⟨rfl, _, rfl, _, rfl, eqW (hw25.mono e2) ((hall u (List.mem_of_getElem? hu)).mono e2) ⟨_, h2, ?_, hE0, e2.mut hE0, ?_⟩⟩
      · rw [List.length_map, List.length_replicate]
        exact sz_lt (by omega)
      · rw [upd_same, List.replicate_succ', List.map_append]
        rfl
    obtain ⟨hE0, e2, h2⟩ := hp
    rw [h8] at h2
    refine ⟨by show 1 ≤ sizeLine; decide, fun L1 hL1 => ⟨_, rfl, TL, told, rfl, .inl (sq_of (Ex.new hL1 _ _ (e2 _ _ hTl))), L1, _, _, rfl, rfl, upd_same, by omega, by omega, ?_⟩⟩
    rw [show (told.length : Int).toNat = 8 by omega]
    refine ⟨by show 8 ≤ sizeLine; decide, fun L8 hL8 => ⟨_, _, rfl, Sd.lstB (l := List.replicate 8 true) (m := List.replicate 8 true) rfl (by decide) (Ex.new hL8 _ _ (Ex.new hL1 _ _ h2)) upd_same, fun H6 e6 => ⟨_, rfl, ?_⟩⟩⟩
    have e3 := e2.trans ((Ex.new hL1).trans ((Ex.new hL8).trans e6))
    have hTl := e3 _ _ hTl
    have hall := fun z hz => (hall z hz).mono e3
    have hb25 := hb25.mono e3
    have q25 : ∀ H', Ex H6 H' → Q (.bl true) H' := fun H' x => q25 H' (e3.trans x)
    clear h2 hE0 hE3 e2 hw25 e3 hL8 hL1 e6
    refine ⟨_, rfl, TL, rfl, ⟨_, sq_of hTl⟩, fun E3 hE3 => lc_it (walk_list (xs := told)) (fun i H' => H6 E3 = none ∧ Ex H6 H' ∧ H' E3 = some (.lst ((List.replicate i true).map V.bl))) ⟨hE3, Ex.new hE3, upd_same⟩ (fun _ _ _ hp => sq_of (hp.2.1 _ _ hTl)) (fun i u H4 H5 hi hp hy => ?_) (fun H4 hp => ?_)⟩
    · obtain ⟨rfl, hu⟩ := hy
      obtain ⟨hE0, e2, h2⟩ := hp
      refine ⟨rfl, _, rfl, _, rfl, eqW ((hall u (List.mem_of_getElem? hu)).mono e2) (hb25.mono e2) ⟨_, h2, ?_, hE0, e2.mut hE0, ?_⟩⟩
      · rw [List.length_map, List.length_replicate]
        exact sz_lt (by omega)
      · rw [upd_same, List.replicate_succ', List.map_append]
        rfl
    obtain ⟨hE0, e2, h2⟩ := hp
    rw [h8] at h2
    refine ⟨by show 1 ≤ sizeLine; decide, fun L1 hL1 => ⟨_, rfl, TL, told, rfl, .inl (sq_of (Ex.new hL1 _ _ (e2 _ _ hTl))), L1, _, _, rfl, rfl, upd_same, by omega, by omega, ?_⟩⟩
    rw [show (told.length : Int).toNat = 8 by omega]
    exact ⟨by show 8 ≤ sizeLine; decide, fun L8 hL8 => ⟨_, _, rfl, Sd.lstB (l := List.replicate 8 true) (m := List.replicate 8 true) rfl (by decide) (Ex.new hL8 _ _ (Ex.new hL1 _ _ h2)) upd_same, fun H7 e7 => q25 _ (e2.trans ((Ex.new hL1).trans ((Ex.new hL8).trans e7)))⟩⟩
end
end Eyes

set_option Elab.async false
set_option linter.all false
set_option maxRecDepth 100000
set_option maxHeartbeats 8000000
/-! The law of worlds from ties: what another world is not. -/
namespace Eyes
open PySem PySem.Spec PyProof.Rows L2 Evl TL
def spUnlikeSo (CW : Addr) : Sp := fun vs H Q _ => ∃ (b tla D l : Addr) (G : Hp) (ts : List Str) (n : Nat) (us : List V) (ks : List Knot), vs = [.ref b, .ref tla, .int (n : Int), .ref l, .ref D] ∧ At b G H ∧ G tla = some (.lst (ts.map V.str)) ∧ 0 < ts.length ∧ ts.length ≤ 1000 ∧ (∀ t ∈ ts, Eyes.nm t) ∧ G l = some (.lst us) ∧ Knots G us ks ∧ VwAt G D n (knotsV n ks) ∧ 1 ≤ n ∧ n ≤ 9 ∧ ks.length ≤ 12 ∧ (∀ k ∈ ks, Eyes.nm k.1 ∧ inK n k) ∧ ∀ G' H', Ex G G' → At b G' H' → Q (.bl true) H'
theorem okK {n : Nat} (n1 : 1 ≤ n) (n9 : n ≤ 2400) {ms : List Knot} {zs : List Str} (hml : ms.length ≤ 24) (hms : ∀ k ∈ ms, Eyes.nm k.1 ∧ inK n k) (hp : zs.Perm ((knotsV n ms).map (·.1))) (hs : sortedS zs = true) : VwOk n (knotsV n ms) zs := ⟨n1, by omega, Nat.lt_of_le_of_lt (knotsV_len n ms) (by omega), knotsV_nodup n ms, fun e he => by
  obtain ⟨k, hk, hk2⟩ := knotsV_names (List.mem_map.mpr ⟨e, he, rfl⟩)
  have := (hms k hk).1.2.1
  rw [hk2] at this
  omega, fun t => by
  have := isP_mrgs (isP_alone n) (prsK_in (t := t) fun k hk => (hms k hk).2)
  rw [← knotsV_gP] at this
  exact this, hp, hs⟩
theorem tieK {n : Nat} {ms : List Knot} (h : ∀ k ∈ ms, Eyes.nm k.1 ∧ inK n k) : ∀ k ∈ ms, tieOk n k := fun k hk => ⟨nm_name (h k hk).1, nm_okS (h k hk).1, (h k hk).2.1, (h k hk).2.2⟩
section
variable {P : Program} {w : World} {K : PySem.W.Frag} {mg : Str → Option Value} {base : Heap} {AA : Adr}
theorem eqG {H : Hp} {C : Addr} {x y : V} {n m : Nat} {f g : Vw} (hn : n ≤ 4096) (hm : m ≤ 4096) (hx : WorldAt C H x n f) (hy : WorldAt C H y m g) (hf : CnV f) (hg : CnV g) {R : VK} (r : R (.bl (decide (n = m ∧ f = g))) H) : rEqOwn K C (spEqAll C) x y H R := by
  obtain ⟨p, dx, D, rfl, h1, h2⟩ := id hx
  obtain ⟨p2, dx2, D2, rfl, h3, h4⟩ := id hy
  exact ⟨p, dx, _, rfl, h1, .inr (.inr ⟨p2, dx2, _, rfl, h3⟩), .ref p, .ref p2, n, f, rfl, hn, hx, .inl ⟨m, g, hm, hy, hf, hg, r⟩⟩
theorem ok_law_unlike_so (T : Txt K mg AA) : Pr P w K mg base "_law_unlike_so" s_law_unlike_so p_law_unlike_so 40 (spUnlikeSo AA.World) := by
  refine pr_mk T.f_law_unlike_so sc_law_unlike_so (fun vs H Q E h => ?_) (fun f cdv A outer s H vs Q E hr h => ?_)
  · obtain ⟨b, tla, D, l, G, ts, n, us, ks, rfl, _⟩ := h
    rfl
  · obtain ⟨b, tla, D, l, G, ts, n, us, ks, rfl, hA, htl, ht0, ht1, htn, hl, hK, hV, n1, n9, hkl, hks, q⟩ := h
    refine ⟨_, (pss_cons (ps_set (i := 5) sc_law_unlike_so.nd rfl (.inl rfl) (pmake T.m_World (ok_World___init T) hr (pa_cons (pv 2) (pa_cons (pv 3) pa_nil))))
      (pss_cons (ps_par3 (i := 6) (j := 7) (l := 8) rfl sc_law_unlike_so.nd rfl rfl rfl (by decide) (by decide) (by decide) rfl rfl rfl (pa_cons (pcall (ok_law_of T) hr (pa_cons (pv 0) (pa_cons (pv 1) pa_nil))) (pa_cons (pe_op op_add pe_int (pcall (ok_law_draw T) hr (pa_cons (pv 0) (pa_cons (pv 2) pa_nil)))) (pa_cons (pe_op op_add pe_int (pcall (ok_law_draw T) hr (pa_cons (pv 0) (pa_cons (pv 2) pa_nil)))) pa_nil))) rfl)
      (pss_cons (ps_set (i := 9) sc_law_unlike_so.nd rfl (.inl rfl) (pmeth T.c_World (PrMF.m (ok_World_tied T)) hr (pv 5) (pa_cons (pv 6) (pa_cons (pv 7) (pa_cons (pv 8) pa_nil)))))
      (pss_cons (ps_set (i := 10) sc_law_unlike_so.nd rfl (.inl rfl) (pcall (ok_law_views T) hr (pa_cons (pv 2) (pa_cons (pe_op op_cat (pv 3) (pe_lst (pa_cons (pe_tup (pa_cons (pv 6) (pa_cons (pv 7) (pa_cons (pv 8) pa_nil)))) pa_nil))) pa_nil))))
      (pss_cons (ps_set (i := 11) sc_law_unlike_so.nd rfl (.inl rfl) (pe_cmpR (op_eqDBK (K := K) rfl (u65 hr)) (pcall (ok_law_seen T) hr (pa_cons (pv 2) (pa_cons (pv 10) pa_nil))) (pcall (ok_law_seen T) hr (pa_cons (pv 2) (pa_cons (pv 4) pa_nil))) (nomark _)))
      (pss_cons (ps_if (pt_not (pt_val (pcall (ok_law_sd T 12) hr (pa_cons (pe_lst (pa_cons (pe_cmpR (op_eqOwn (ok_World___eqA T) hr) (pv 5) (pv 9) (nomark _)) (pa_cons (pe_cmpR (op_eqOwn (ok_World___eqA T) hr) (pv 9) (pv 5) (nomark _)) (pa_cons (pe_cmpR (op_eqOwn (ok_World___eqA T) hr) (pv 5) (pmake T.m_World (ok_World___init T) hr (pa_cons (pe_op op_add (pv 2) pe_int) (pa_cons (pv 3) pa_nil))) (nomark _)) (pa_cons (pe_cmpR (op_eqOwn (ok_World___eqA T) hr) (pv 5) (pmeth0 T.c_World (ok_World_text T) hr (pv 5)) (nomark _)) (pa_cons (pe_cmpR (op_eqOwnI (ok_World___eqA T) hr) (pv 5) pe_int (nomark _)) (pa_cons (pe_cmpR (op_eqOwn (ok_World___eqA T) hr) (pv 5) (pv 3) (nomark _)) pa_nil))))))) (pa_cons (pe_lst (pa_cons (pv 11) (pa_cons (pv 11) (pa_cons pe_bl (pa_cons pe_bl (pa_cons pe_bl (pa_cons pe_bl pa_nil))))))) pa_nil)))))
      (pss_one (ps_ret pe_bl))
      pss_nil)
      (pss_one (ps_ret (pe_and (pcall (ok_law_world_so T) hr (pa_cons (pv 9) (pa_cons (pv 2) (pa_cons (pv 10) pa_nil)))) (pe_one (pcall (ok_law_world_so T) hr (pa_cons (pv 5) (pa_cons (pv 2) (pa_cons (pv 4) pa_nil)))))))))))))), ?_⟩
    have hul := hK.1
    have hwf := hA.ex
    refine ⟨_, rfl, _, rfl, fun wp wdx hx hdx hxd => ?_⟩
    have eX : Ex H (upd (upd H wdx (.own wp)) wp (.ins AA.World wdx [])) := (Ex.new hdx).trans (Ex.new ((upd_ne (Ne.symm hxd)).trans hx))
    refine ⟨wp, wdx, l, n, us, ks, H, rfl, hx, eX, upd_same, .inl (sq_of (hwf _ _ hl)), hK.mono hwf, by omega, tieK hks, n1, by omega, fun H1 ys e1 hys hso hWd => ⟨rfl, ?_⟩⟩
    clear hx hdx hxd eX
    have ok := okK n1 (by omega) (by omega) hks hys hso
    obtain ⟨G1, hA1, x1, gN1, _⟩ := hA.allF e1
    have hwI : WIs AA.World G1 (.ref wp) n ks.length (gP n (knotsV n ks)) := (show WIs AA.World H1 (.ref wp) n ks.length (gP n (knotsV n ks)) from ⟨_, ys, hWd, ok, knotsV_len n ks, fun _ => rfl⟩).keep gN1
    have hw := hwI.stands ok fun _ => rfl
    obtain ⟨_, wdx, wD, heq, hwp, hwV⟩ := id hw
    cases heq
    refine ⟨_, rfl, _, rfl, b, .ref tla, G1, ts.map V.str, rfl, hA1, .inl ⟨tla, rfl, sq_of (x1 _ _ htl)⟩, by rw [List.length_map]; exact ht0, by rw [List.length_map]; omega, fun xv H2 hxv hA2 => ?_⟩
    obtain ⟨x, hxt, rfl⟩ := List.mem_map.mp hxv
    refine ⟨_, rfl, _, rfl, b, (n : Int), G1, rfl, hA2, by omega, by omega, fun d1 H3 a0 a1 hA3 => ⟨1, d1, rfl, rfl, _, rfl, _, rfl, b, (n : Int), G1, rfl, hA3, by omega, by omega, fun d2 H4 b0 b1 hA4 => ⟨1, d2, rfl, rfl, ?_⟩⟩⟩
    obtain ⟨e1, rfl⟩ := Int.eq_ofNat_of_zero_le a0
    obtain ⟨e2, rfl⟩ := Int.eq_ofNat_of_zero_le b0
    have c1 : (1 : Int) + (e1 : Int) = ((1 + e1 : Nat) : Int) := by omega
    have c2 : (1 : Int) + (e2 : Int) = ((1 + e2 : Nat) : Int) := by omega
    refine ⟨_, _, _, rfl, ?_⟩
    dsimp only
    rw [c1, c2]
    have hk : Eyes.nm x ∧ inK n (x, 1 + e1, 1 + e2) := ⟨htn x hxt, ⟨by show 1 ≤ 1 + e1; omega, by show 1 + e1 ≤ n; omega⟩, by show 1 ≤ 1 + e2; omega, by show 1 + e2 ≤ n; omega⟩
    generalize 1 + e1 = u0 at *
    generalize 1 + e2 = v0 at *
    clear c1 c2 a0 a1 b0 b1 hA2 hA3
    have k4 := hA4.ex
    refine ⟨_, rfl, wp, wdx, _, rfl, k4 _ _ hwp, wf_no (by decide +kernel) (by decide +kernel), _, rfl, _, rfl, _, rfl, .ref wp, x, u0, v0, n, ks.length, gP n (knotsV n ks), rfl, hwI.mono k4, hk.1, by omega, hk.2.1, hk.2.2, fun fu H5 e5 hfu => ?_⟩
    obtain ⟨G5, hA5, x5, gN5, _⟩ := hA4.allF e5
    have hF1 : ∀ t, (if t = x then mrg1 (gP n (knotsV n ks) x) u0 v0 else gP n (knotsV n ks) t) = gP n (knotsV n (ks ++ [(x, u0, v0)])) t := fun t => by
      rw [knotsV_snoc]
      show _ = (wGet (wPut (knotsV n ks) x (mrg1 (gP n (knotsV n ks) x) u0 v0)) t).getD (alone n)
      rw [wGet_put]
      by_cases e : t = x
      · rw [if_pos e, if_pos e]
        rfl
      · rw [if_neg e, if_neg e]
        rfl
    have hfI : WIs AA.World G5 fu n (ks.length + 1) (gP n (knotsV n (ks ++ [(x, u0, v0)]))) := by
      obtain ⟨g1, g2, g3, g4, g5, g6⟩ := hfu
      exact (show WIs AA.World H5 fu n (ks.length + 1) (gP n (knotsV n (ks ++ [(x, u0, v0)]))) from ⟨g1, g2, g3, g4, g5, fun t => (g6 t).trans (hF1 t)⟩).keep gN5
    clear hfu
    have k5 := hA5.ex
    refine ⟨_, rfl, _, rfl, _, rfl, _, rfl, _, rfl, by show 3 ≤ sizeLine; decide, fun tp htp => ⟨by show 1 ≤ sizeLine; decide, fun tl htl2 => ⟨l, tl, us, _, rfl, rfl, Ex.new htl2 _ _ (Ex.new htp _ _ (k5 _ _ (x5 _ _ (x1 _ _ hl)))), upd_same, by rw [hul]; exact sz_of (by show ks.length + 1 ≤ _; omega), fun ml hml => ?_⟩⟩⟩
    have eM : Ex H5 (upd (upd (upd H5 tp (.tup [.str x, .int (u0 : Int), .int (v0 : Int)])) tl (.lst [.ref tp])) ml (.lst (us ++ [.ref tp]))) := ((Ex.new htp).trans (Ex.new htl2)).trans (Ex.new hml)
    have hKM : Knots (upd (upd (upd H5 tp (.tup [.str x, .int (u0 : Int), .int (v0 : Int)])) tl (.lst [.ref tp])) ml (.lst (us ++ [.ref tp]))) (us ++ [.ref tp]) (ks ++ [(x, u0, v0)]) := ((((hK.mono x1).mono x5).mono k5).mono eM).snoc (((Ex.new htl2).trans (Ex.new hml)) _ _ upd_same)
    have hml2 := upd_same (H := upd (upd H5 tp (.tup [.str x, .int (u0 : Int), .int (v0 : Int)])) tl (.lst [.ref tp])) (a := ml) (o := HO.lst (us ++ [.ref tp]))
    generalize upd (upd (upd H5 tp (.tup [.str x, .int (u0 : Int), .int (v0 : Int)])) tl (.lst [.ref tp])) ml (.lst (us ++ [.ref tp])) = H6 at eM hKM hml2 ⊢
    clear htp htl2 hml
    have hkx : ∀ k ∈ ks ++ [(x, u0, v0)], Eyes.nm k.1 ∧ inK n k := fun k h => by
      rcases List.mem_append.mp h with h | h
      · exact hks k h
      · rw [List.mem_singleton.mp h]
        exact hk
    have hkxl : (ks ++ [(x, u0, v0)]).length ≤ 13 := by
      rw [List.length_append]
      show ks.length + 1 ≤ 13
      omega
    generalize ks ++ [(x, u0, v0)] = kx at hkx hkxl hKM hfI hF1
    have hkxV := Nat.le_trans (knotsV_len n kx) hkxl
    refine ⟨n, ml, _, kx, rfl, by omega, hml2, hKM, by omega, fun k h => ⟨(hkx k h).2.1.1, (hkx k h).2.1.2, (hkx k h).2.2.1, (hkx k h).2.2.2⟩, fun DM H7 e7 hDM hVM => ?_⟩
    have x15 := x1.trans x5
    have k7 := k5.trans (eM.trans e7)
    refine ⟨_, rfl, _, rfl, n, DM, _, rfl, by omega, hVM, by omega, knotsV_nodup n kx, fun SM H8 z1 e8 hSM hz1 hs1 hVS1 => ?_⟩
    have hV8 := ((hV.mono x15).mono k7).mono e8
    refine ⟨_, rfl, _, rfl, n, D, knotsV n ks, rfl, by omega, hV8, ok.few, ok.nd, fun SV H9 z2 e9 hSV hz2 hs2 hVS2 => ?_⟩
    have okx := okK n1 (by omega) (by omega) hkx hz1 hs1
    have hz2e := ok.one hz2 hs2
    subst hz2e
    have hc1 := seen_cn (n := n) hz1 okx.nd hs1
    have hc2 := seen_cn (n := n) hz2 ok.nd hs2
    have k9 := k7.trans (e8.trans e9)
    have hw9 := ((hwI.stands ok fun _ => rfl).mono x5).mono k9
    have hf9 := (hfI.stands okx fun _ => rfl).mono k9
    have hVM9 := hVM.mono (e8.trans e9)
    have hV9 := hV8.mono e9
    have hl9 := k9 _ _ (x15 _ _ hl)
    have hK9 := (hK.mono x15).mono k9
    have hfew := ok.fewV
    have q9 : ∀ H', Ex H9 H' → Q (.bl true) H' := fun H' e => q G5 H' x15 (hA5.mono ((eM.trans e7).trans ((e8.trans e9).trans e)))
    obtain ⟨W1, a1, a2, a3⟩ := hVS1.mono e9
    obtain ⟨W2, b1, b2, b3⟩ := hVS2
    refine ⟨SM, SV, vK W1, vK W2, _, rfl, rfl, a1, b1, fun _ => vK_hits b3 a3, ?_⟩
    have hl : ((vK W1).length == (vK W2).length) = ((seenV n (knotsV n kx) z1).length == (seenV n (knotsV n ks) z2).length) := by
      rw [← a2, ← b2]
      unfold vK vW
      rw [List.length_map, List.length_map, List.length_map, List.length_map]
    rw [hl, a2, b2, cn_same hc1 hc2]
    generalize hSd : seenV n (knotsV n ks) z2 = S at *
    generalize hMd : seenV n (knotsV n kx) z1 = M at *
    clear a1 a2 a3 b1 b2 b3 hl
    obtain ⟨_, wdx, wD, heq, hwp, hwV⟩ := id hw9
    cases heq
    refine ⟨_, rfl, _, rfl, eqG (by omega) (by omega) hw9 hf9 hc2 hc1 ⟨_, rfl, _, rfl, eqG (by omega) (by omega) hf9 hw9 hc1 hc2 ?_⟩⟩
    refine ⟨_, rfl, _, rfl, _, _, rfl, rfl, _, rfl, fun xp xdx hx hdx hxd => ?_⟩
    have eX : Ex H9 (upd (upd H9 xdx (.own xp)) xp (.ins AA.World xdx [])) := (Ex.new hdx).trans (Ex.new ((upd_ne (Ne.symm hxd)).trans hx))
    have hks1 : ∀ k ∈ ks, Eyes.nm k.1 ∧ inK (n + 1) k := fun k hk => by
      have := (hks k hk).2
      unfold inK at this ⊢
      exact ⟨(hks k hk).1, by omega, by omega⟩
    refine ⟨xp, xdx, l, n + 1, us, ks, H9, rfl, hx, eX, upd_same, .inl (sq_of hl9), hK9, by omega, tieK hks1, by omega, by omega, fun H10 z3 e10 hz3 hs3 hW3 => ⟨rfl, ?_⟩⟩
    clear hx hdx hxd eX
    have ok3 := okK (n := n + 1) (by omega) (by omega) (by omega) hks1 hz3 hs3
    refine eqG (by omega) (by omega) (hw9.mono e10) hW3 hc2 (seen_cn hz3 ok3.nd hs3) ?_
    rw [decide_eq_false (fun z => by omega : ¬ (n = n + 1 ∧ S = seenV (n + 1) (knotsV (n + 1) ks) z3))]
    have hw10 := hw9.mono e10
    refine ⟨_, rfl, _, rfl, wp, wdx, _, rfl, e10 _ _ hwp, wf_no (by decide +kernel) (by decide +kernel), .ref wp, n, S, rfl, hfew, hw10, fun H11 e11 => ?_⟩
    have e911 := e10.trans e11
    have hw11 := hw9.mono e911
    have hwp11 := e911 _ _ hwp
    have hl11 := e911 _ _ hl9
    refine ⟨wp, wdx, _, rfl, hwp11, .inl ⟨_, rfl, T.nfw_str⟩, .ref wp, _, n, S, rfl, by omega, hw11, .inr ⟨.inr (.inl ⟨_, rfl⟩), ?_⟩⟩
    refine ⟨_, rfl, wp, wdx, _, 7, rfl, hwp11, rfl, T.nfw_int, .ref wp, .int 7, n, S, rfl, by omega, hw11, .inr ⟨.inl ⟨_, rfl⟩, ?_⟩⟩
    refine ⟨_, rfl, _, rfl, wp, wdx, _, rfl, hwp11, .inr (.inl ⟨l, us, rfl, hl11, T.nfw_list⟩), .ref wp, .ref l, n, S, rfl, by omega, hw11, .inr ⟨.inr (.inr ⟨l, us, rfl, hl11⟩), ?_⟩⟩
    rw [show decide (n = n ∧ S = M) = decide (M = S) from decide_eq_decide.mpr ⟨fun z => z.2.symm, fun z => ⟨rfl, z.symm⟩⟩, show decide (n = n ∧ M = S) = decide (M = S) from decide_eq_decide.mpr ⟨fun z => z.2, fun z => ⟨rfl, z⟩⟩]
    refine ⟨by show 6 ≤ sizeLine; decide, fun L1 hL1 => ⟨_, rfl, _, rfl, by show 6 ≤ sizeLine; decide, fun L2 hL2 => ⟨_, _, rfl, Sd.lstB (l := [decide (M = S), decide (M = S), false, false, false, false]) (m := [decide (M = S), decide (M = S), false, false, false, false]) rfl (by show 6 ≤ 90000; decide) (Ex.new hL2 _ _ upd_same) upd_same, fun H12 e12 => ⟨_, rfl, iteF ?_⟩⟩⟩⟩
    have e912 := e911.trans ((Ex.new hL1).trans ((Ex.new hL2).trans e12))
    refine ⟨_, rfl, _, rfl, _, rfl, fu, DM, n, knotsV n kx, z1, rfl, by rw [hMd]; exact hf9.mono e912, hVM9.mono e912, okx, fun H13 e13 => ⟨_, rfl, ?_⟩⟩
    exact ⟨_, rfl, _, rfl, _, rfl, .ref wp, D, n, knotsV n ks, z2, rfl, by rw [hSd]; exact hw9.mono (e912.trans e13), hV9.mono (e912.trans e13), ok, fun H14 e14 => q9 _ (e912.trans (e13.trans e14))⟩
end
end Eyes

set_option Elab.async false
set_option linter.all false
set_option maxRecDepth 100000
set_option maxHeartbeats 4000000
/-! Two circles in a world; all pairs of cases. -/
namespace Eyes
open PySem PySem.Spec PyProof.Rows L2 Evl TL
structure Sml (c : Ci) : Prop where
  nr : c.norm
  sz : c.size ≤ 30
  dp : c.depth ≤ 10
theorem Sml.fine {c : Ci} (h : Sml c) : c.fine := ⟨norm_of h.nr, by have := h.sz; omega⟩
theorem Sml.two {c d : Ci} (k : Bool) (h : Sml c) (g : Sml d) : (∀ e ∈ [c, d], e.norm) ∧ Good k [c, d] ∧ (mkC k [c, d]).norm ∧ (mkC k [c, d]).fine ∧ (mkC k [c, d]).depth ≤ 11 := by
  have hn : ∀ e ∈ [c, d], e.norm := fun e he => by
    rcases List.mem_cons.mp he with rfl | he
    · exact h.nr
    · rw [List.mem_singleton.mp he]
      exact g.nr
  have hd : ∀ e ∈ [c, d], e.depth ≤ 10 := fun e he => by
    rcases List.mem_cons.mp he with rfl | he
    · exact h.dp
    · rw [List.mem_singleton.mp he]
      exact g.dp
  have hs : (mkC k [c, d]).size ≤ c.size + (d.size + 0) := mk_sizeW hn
  have hdp := mk_depthW (k := k) hn hd
  have hne : [c, d] ≠ [] := fun z => nomatch z
  have hN := mkC_norm (k := k) hne hn
  have h1 := h.sz
  have h2 := g.sz
  refine ⟨hn, ⟨hne, fun e he => ?_, by show 2 ≤ 1400; decide, by omega, by omega⟩, hN, ⟨norm_of hN, by omega⟩, hdp⟩
  rcases List.mem_cons.mp he with rfl | he
  · exact h.fine
  · rw [List.mem_singleton.mp he]
    exact g.fine
structure WV (CW : Addr) (H : Hp) (v : V) (l : Addr) (n : Nat) (f : Vw) (ys : List Str) : Prop where
  w : WorldAt CW H v n (seenV n f ys)
  vw : VwAt H l n f
  ok : VwOk n f ys
theorem WV.mono {CW : Addr} {H H' : Hp} {v : V} {l : Addr} {n : Nat} {f : Vw} {ys : List Str} (e : Ex H H') (h : WV CW H v l n f ys) : WV CW H' v l n f ys := ⟨h.w.mono e, h.vw.mono e, h.ok⟩
theorem WV.view {CW : Addr} {H : Hp} {v : V} {l : Addr} {n : Nat} {f : Vw} {ys : List Str} (h : WV CW H v l n f ys) (c : Ci) : viewC n (seenV n f ys) c = viewC n f c := viewC_congr (seen_same h.ok.pm) c
theorem WV.isP {CW : Addr} {H : Hp} {v : V} {l : Addr} {n : Nat} {f : Vw} {ys : List Str} (h : WV CW H v l n f ys) (c : Ci) : IsP n (viewC n f c) := viewC_isP h.ok.isP c
def spPairsW (CC CW : Addr) : Sp := fun vs H Q _ => ∃ (v x : V) (l r : Addr) (n : Nat) (f : Vw) (ys : List Str) (c : Ci), vs = [v, .int (n : Int), x, .ref r] ∧ WV CW H v l n f ys ∧ CiAt CC H x c ∧ Sml c ∧ H r = some (.tup (nvs (viewC n f c))) ∧ ∀ H', Ex H H' → Q (.bl true) H'
def spPartsSo (CW : Addr) : Sp := fun vs H Q _ => ∃ (v x y : V) (l : Addr) (n : Nat) (f : Vw) (ys : List Str) (c d : Ci), vs = [v, .int (n : Int), .ref l, x, y] ∧ WV CW H v l n f ys ∧ Rep H x c.data ∧ Rep H y d.data ∧ Sml c ∧ Sml d ∧ ∀ H', Ex H H' → Q (.bl true) H'
section
variable {P : Program} {w : World} {K : PySem.W.Frag} {mg : Str → Option Value} {base : Heap} {AA : Adr}
end
end Eyes

set_option Elab.async false
set_option linter.all false
set_option maxRecDepth 100000
set_option maxHeartbeats 4000000
/-! What is no list is kept. -/
namespace Eyes
open PySem PySem.Spec PyProof.Rows L2 Evl TL
def keepN (G G' : Hp) : Prop := ∀ a o, G a = some o → (∀ xs, o ≠ .lst xs) → G' a = some o
theorem keepN.ex {G G' : Hp} (e : Ex G G') : keepN G G' := fun a o h _ => e a o h
theorem keepN.trans {G G' G2 : Hp} (e : keepN G G') (e2 : keepN G' G2) : keepN G G2 := fun a o h n => e2 a o (e a o h n) n
theorem keepN.put {G : Hp} {D : Addr} {xs : List V} {o : HO} (h : G D = some (.lst xs)) : keepN G (upd G D o) := fun a u g n => by
  rw [upd_ne fun z => by rw [z, h] at g; exact n xs (Option.some.inj g).symm]
  exact g
theorem VwAt.keepN {G G' : Hp} {D : Addr} {n : Nat} {f : Vw} (e : keepN G G') (h : VwAt G D n f) : VwAt G' D n f := by
  obtain ⟨W, h1, h2, h3⟩ := h
  exact ⟨W, e _ _ h1 (fun _ => nofun), h2, fun x hx => ⟨e _ _ (h3 x hx).1 (fun _ => nofun), (h3 x hx).2⟩⟩
theorem WorldAt.keepN {C : Addr} {G G' : Hp} {v : V} {n : Nat} {f : Vw} (e : keepN G G') (h : WorldAt C G v n f) : WorldAt C G' v n f := by
  obtain ⟨p, dx, D, h1, h2, h3⟩ := h
  exact ⟨p, dx, D, h1, e _ _ h2 (fun _ => nofun), h3.keepN e⟩
theorem WV.keepN {C : Addr} {G G' : Hp} {v : V} {l : Addr} {n : Nat} {f : Vw} {ys : List Str} (e : keepN G G') (h : WV C G v l n f ys) : WV C G' v l n f ys := ⟨h.w.keepN e, h.vw.keepN e, h.ok⟩
end Eyes

set_option Elab.async false
set_option linter.all false
set_option maxRecDepth 100000
set_option maxHeartbeats 8000000
/-! The law of worlds from ties: what is passed in and given out is copied. -/
namespace Eyes
open PySem PySem.Spec PyProof.Rows L2 Evl TL
def spCopiesSo (CW : Addr) : Sp := fun vs H Q _ => ∃ (D l : Addr) (n : Nat) (us : List V) (ks : List Knot), vs = [.int (n : Int), .ref l, .ref D] ∧ H l = some (.lst us) ∧ Knots H us ks ∧ VwAt H D n (knotsV n ks) ∧ 1 ≤ n ∧ n ≤ 9 ∧ 1 ≤ ks.length ∧ ks.length ≤ 12 ∧ (∀ k ∈ ks, Eyes.nm k.1 ∧ inK n k) ∧ ∀ H', Ex H H' → Q (.bl true) H'
theorem ixK {n j : Nat} {z : Int} (e : z = (j : Int)) (h : j < n) : ixN n z = some j := by
  subst e
  unfold ixN
  rw [if_pos (Int.natCast_nonneg j), if_pos (by omega)]
  rfl
theorem repK {K : PySem.W.Frag} {H : Hp} {t : Addr} {n : Nat} (n1 : 1 ≤ n) (n9 : n ≤ 9) (ht : H t = some (.tup [.int 1])) {R : VK} (r : ∀ a H', Ex H H' → R (.ref a) H') : rRepT K (.ref t) (.int (n : Int)) H R ∨ rRep1 K (.ref t) (.int (n : Int)) H R := by
  by_cases h : n = 1
  · exact .inr ⟨t, _, rfl, by rw [h]; rfl, st_of ht, r _ _ (Ex.refl _)⟩
  · exact .inl ⟨t, (n : Int), _, rfl, rfl, st_of ht, nofun, by omega, by omega, by show 1 ≤ 1000; decide, fun p hp => r _ _ (Ex.new hp)⟩
theorem put_len {kvs : List (L2.Key × V)} {k : L2.Key} {v : V} : (putK kvs k v).length ≤ kvs.length + 1 := by
  unfold putK
  split
  · rw [List.length_map]
    omega
  · rw [List.length_append]
    exact Nat.le_refl _
section
variable {P : Program} {w : World} {K : PySem.W.Frag} {mg : Str → Option Value} {base : Heap} {AA : Adr}
theorem ok_law_copies_so (T : Txt K mg AA) : Pr P w K mg base "_law_copies_so" s_law_copies_so p_law_copies_so 40 (spCopiesSo AA.World) := by
  refine pr_mk T.f_law_copies_so sc_law_copies_so (fun vs H Q E h => ?_) (fun f cdv A outer s H vs Q E hr h => ?_)
  · obtain ⟨D, l, n, us, ks, rfl, _⟩ := h
    rfl
  · obtain ⟨D, l, n, us, ks, rfl, hl, hK, hV, n1, n9, hk1, hkl, hks, q⟩ := h
    refine ⟨_, (pss_cons (ps_set (i := 3) sc_law_copies_so.nd rfl (.inl rfl) (pe_callTy call_list_of (by rfl) T.n_list PyProof.Rows.boot_list (pa_cons (pv 1) pa_nil)))
      (pss_cons (ps_set (i := 4) sc_law_copies_so.nd rfl (.inl rfl) (pmake T.m_World (ok_World___init T) hr (pa_cons (pv 0) (pa_cons (pv 3) pa_nil))))
      (pss_cons (ps_expr (pe_bm PySem.F.plainAttrs_list PySem.F.slot_list_append PySem.F.type_list_append mt_append (pv 3) (pa_cons (pe_tup (pa_cons pe_str (pa_cons pe_int (pa_cons (pv 0) pa_nil)))) pa_nil)))
      (pss_cons (ps_asg (pe_tup (pa_cons pe_str (pa_cons pe_int (pa_cons (pv 0) pa_nil)))) (pg_sub (pv 3) pe_int set_list))
      (pss_cons (ps_if (pt_not (pt_val (pcall (ok_law_world_so T) hr (pa_cons (pv 4) (pa_cons (pv 0) (pa_cons (pv 2) pa_nil))))))
      (pss_one (ps_ret pe_bl))
      pss_nil)
      (pss_cons (ps_par (i := 5) (j := 6) rfl sc_law_copies_so.nd rfl rfl (by decide) rfl rfl (pa_cons (pmeth0 T.c_World (ok_World_eyes T) hr (pv 4)) (pa_cons (pmeth0 T.c_World (ok_World_partings T) hr (pv 4)) pa_nil)) rfl)
      (pss_cons (ps_expr (pe_bm PySem.F.plainAttrs_list PySem.F.slot_list_append PySem.F.type_list_append mt_append (pv 5) (pa_cons pe_str pa_nil)))
      (pss_cons (ps_dput (hu_of hr) (pv 6) pe_str (pe_op (opR_or op_repT op_rep1) (pe_tup (pa_cons pe_int pa_nil)) (pv 0)) rfl)
      (pss_cons (ps_dput (hu_of hr) (pv 6) pe_str pe_non rfl)
      (pss_cons (ps_for PassesOwn.never rfl (pi_list (pe_callTy (call_list_dK rfl) (by rfl) T.n_list PyProof.Rows.boot_list (pa_cons (pcall (ok_law_seen T) hr (pa_cons (pv 0) (pa_cons (pv 2) pa_nil))) pa_nil))) (pg_name (i := 7) sc_law_copies_so.nd rfl (.inl rfl))
      (pss_one (ps_dput (hu_of hr) (pv 6) (pv 7) (pe_op (opR_or op_repT op_rep1) (pe_tup (pa_cons pe_int pa_nil)) (pv 0)) rfl)))
      (pss_one (ps_ret (pe_and (pcall (ok_law_world_so T) hr (pa_cons (pv 4) (pa_cons (pv 0) (pa_cons (pv 2) pa_nil)))) (pe_and (pe_cmpR op_eq (pe_ix (ix_listK (K := K) rfl) (pv 5) (pe_op op_sub (pe_callB (call_len_seqK (K := K) rfl) (by rfl) T.n_len PySem.boot_len (pa_cons (pv 5) pa_nil)) pe_int) (fun _ _ => rfl)) pe_str (nomark _)) (pe_one (pe_cmpR op_isN (pe_dget (hu_of hr) (pv 6) pe_str (fun _ _ => rfl)) pe_non (nomark _))))))))))))))))), ?_⟩
    have hul := hK.1
    refine ⟨_, rfl, l, us, rfl, .inl (sq_of hl), fun P0 hP => ?_⟩
    have x1 : Ex H (upd H P0 (.lst us)) := Ex.new hP
    have hP1 := upd_same (H := H) (a := P0) (o := HO.lst us)
    generalize upd H P0 (.lst us) = H1 at x1 hP1 ⊢
    refine ⟨_, rfl, _, rfl, fun wp wdx hx hdx hxd => ?_⟩
    have eX : Ex H1 (upd (upd H1 wdx (.own wp)) wp (.ins AA.World wdx [])) := (Ex.new hdx).trans (Ex.new ((upd_ne (Ne.symm hxd)).trans hx))
    refine ⟨wp, wdx, P0, n, us, ks, H1, rfl, hx, eX, upd_same, .inl (sq_of hP1), hK.mono x1, by omega, tieK hks, n1, by omega, fun H2 ys e2 hys hso hWd => ⟨rfl, ?_⟩⟩
    clear hx hdx hxd eX
    have ok := okK n1 (by omega) (by omega) hks hys hso
    have x2 := x1.trans e2
    have hP2 := e2 _ _ hP1
    refine ⟨_, rfl, .inl ⟨rfl, us, sq_of hP2⟩, _, rfl, by show 3 ≤ sizeLine; decide, fun p1 hp1 => ⟨P0, us, _, rfl, rfl, Ex.new hp1 _ _ hP2, sz_lt (by omega), ?_⟩⟩
    have k3 : keepN H2 (upd (upd H2 p1 (.tup [.str (Str.ofString "zzz"), .int 1, .int (n : Int)])) P0 (.lst (us ++ [V.ref p1]))) := (keepN.ex (Ex.new hp1)).trans (keepN.put (Ex.new hp1 _ _ hP2))
    have x3 : Ex H (upd (upd H2 p1 (.tup [.str (Str.ofString "zzz"), .int 1, .int (n : Int)])) P0 (.lst (us ++ [V.ref p1]))) := (x2.trans (Ex.new hp1)).mut hP
    have hP3 := upd_same (H := upd H2 p1 (.tup [.str (Str.ofString "zzz"), .int 1, .int (n : Int)])) (a := P0) (o := HO.lst (us ++ [V.ref p1]))
    generalize upd (upd H2 p1 (.tup [.str (Str.ofString "zzz"), .int 1, .int (n : Int)])) P0 (.lst (us ++ [V.ref p1])) = H3 at k3 x3 hP3 ⊢
    clear hp1
    refine ⟨_, rfl, by show 3 ≤ sizeLine; decide, fun p2 hp2 => ⟨_, rfl, P0, _, 0, 0, rfl, rfl, Ex.new hp2 _ _ hP3, ixK rfl (by rw [List.length_append]; show 0 < us.length + 1; omega), ?_⟩⟩
    have k4 := k3.trans ((keepN.ex (Ex.new (o := .tup [.str (Str.ofString "zzzz"), .int 1, .int (n : Int)]) hp2)).trans (keepN.put (o := .lst ((us ++ [V.ref p1]).set 0 (V.ref p2))) (Ex.new hp2 _ _ hP3)))
    have x4 : Ex H (upd (upd H3 p2 (.tup [.str (Str.ofString "zzzz"), .int 1, .int (n : Int)])) P0 (.lst ((us ++ [V.ref p1]).set 0 (V.ref p2)))) := (x3.trans (Ex.new hp2)).mut hP
    generalize upd (upd H3 p2 (.tup [.str (Str.ofString "zzzz"), .int 1, .int (n : Int)])) P0 (.lst ((us ++ [V.ref p1]).set 0 (V.ref p2))) = H4 at k4 x4 ⊢
    clear hp2
    have hw4 := hWd.keepN k4
    have hV4 := hV.mono x4
    have q4 : ∀ H', Ex H4 H' → Q (.bl true) H' := fun H' e => q _ (x4.trans e)
    have hnmS : ∀ t ∈ (seenV n (knotsV n ks) ys).map (·.1), Eyes.nm t := fun t ht => by
      obtain ⟨k, hk, hk2⟩ := knotsV_names (seenV_sub hys ht)
      rw [← hk2]
      exact (hks k hk).1
    clear k3 k4 x3 hP3 x2 e2 hWd hP2
    refine ⟨_, rfl, _, rfl, _, rfl, .ref wp, D, n, knotsV n ks, ys, rfl, hw4, hV4, ok, fun H5 e5 => ⟨_, rfl, iteF ?_⟩⟩
    obtain ⟨_, wdx, wD, heq, hwp, hwV⟩ := id (hw4.mono e5)
    cases heq
    refine ⟨_, rfl, wp, wdx, _, rfl, hwp, wf_no (by decide +kernel) (by decide +kernel), .ref wp, n, _, rfl, hw4.mono e5, fun TT H6 e6 hTT hTT6 => ?_⟩
    have hw5 := hw4.mono e5
    have hV5 := hV4.mono e5
    have q5 : ∀ H', Ex H5 H' → Q (.bl true) H' := fun H' e => q4 _ (e5.trans e)
    refine ⟨_, rfl, wp, wdx, _, rfl, e6 _ _ hwp, wf_no (by decide +kernel) (by decide +kernel), .ref wp, n, _, rfl, hw5.mono e6, fun TB H7 e7 hTB hTBV => ⟨_, _, rfl, ?_⟩⟩
    obtain ⟨W7, hB7, hW7, _⟩ := hTBV
    have hW7l : (vK W7).length < 64 := by
      have : (vK W7).length = (seenV n (knotsV n ks) ys).length := by
        rw [← hW7]
        unfold vK vW
        rw [List.length_map, List.length_map]
      rw [this]
      exact ok.seenLen
    have hnl : ((seenV n (knotsV n ks) ys).map (·.1)).length < 64 := by
      rw [List.length_map]
      exact ok.seenLen
    generalize (seenV n (knotsV n ks) ys).map (·.1) = nms at hTT6 hnl hnmS
    have hTT7 := e7 _ _ hTT6
    have hTBT : TB ≠ TT := fun z => by
      rw [z, hTT6] at hTB
      cases hTB
    refine ⟨_, rfl, .inl ⟨rfl, _, sq_of hTT7⟩, TT, _, _, rfl, rfl, hTT7, sz_lt (by rw [List.length_map]; omega), ?_⟩
    have x8 : Ex H5 (upd H7 TT (.lst (nms.map V.str ++ [.str (Str.ofString "Z")]))) := (e6.trans e7).mut hTT
    have hT8 := upd_same (H := H7) (a := TT) (o := HO.lst (nms.map V.str ++ [.str (Str.ofString "Z")]))
    have hB8 := (upd_ne (H := H7) (o := HO.lst (nms.map V.str ++ [.str (Str.ofString "Z")])) hTBT).trans hB7
    generalize upd H7 TT (.lst (nms.map V.str ++ [.str (Str.ofString "Z")])) = H8 at x8 hT8 hB8 ⊢
    have hTB5 := fresh_back e6 hTB
    clear e6 e7 hTT6 hTT7 hB7
    refine ⟨by show 1 ≤ sizeLine; decide, fun t1 ht1 => ⟨_, rfl, repK n1 n9 upd_same fun a H9 e9 => ?_⟩⟩
    have x9 := (x8.trans (Ex.new ht1)).trans e9
    have hT9 := e9 _ _ (Ex.new ht1 _ _ hT8)
    have hB9 := e9 _ _ (Ex.new ht1 _ _ hB8)
    refine ⟨_, rfl, TB, _, rfl, DPut.k (k := .inr (Str.ofString "Y")) hB9 (sz_lt (by omega)), ?_⟩
    have l9 := put_len (kvs := vK W7) (k := .inr (Str.ofString "Y")) (v := V.ref a)
    refine ⟨_, rfl, TB, _, rfl, DPut.k (k := .inr (Str.ofString "Z")) upd_same (sz_lt (by omega)), ?_⟩
    have l10 := put_len (kvs := putK (vK W7) (.inr (Str.ofString "Y")) (V.ref a)) (k := .inr (Str.ofString "Z")) (v := V.non)
    have z10 : valV (putK (putK (vK W7) (.inr (Str.ofString "Y")) (V.ref a)) (.inr (Str.ofString "Z")) V.non) (.inr (Str.ofString "Z")) = some .non := by rw [valV_put, if_pos rfl]
    generalize putK (vK W7) (.inr (Str.ofString "Y")) (V.ref a) = kv1 at l9 l10 z10 ⊢
    generalize putK kv1 (.inr (Str.ofString "Z")) V.non = kv2 at l10 z10 ⊢
    have x10 : Ex H5 (upd (upd H9 TB (.dK kv1)) TB (.dK kv2)) := (x9.mut hTB5).mut hTB5
    have hT10 : (upd (upd H9 TB (.dK kv1)) TB (.dK kv2)) TT = _ := (upd_ne hTBT.symm).trans ((upd_ne hTBT.symm).trans hT9)
    have hB10 := upd_same (H := upd H9 TB (.dK kv1)) (a := TB) (o := HO.dK kv2)
    generalize upd (upd H9 TB (.dK kv1)) TB (.dK kv2) = H10 at x10 hT10 hB10 ⊢
    clear e9 ht1 hT9 hB9 x9
    refine ⟨_, rfl, _, rfl, n, D, knotsV n ks, rfl, by omega, hV5.mono x10, ok.few, ok.nd, fun SD H11 zs e11 hSD hzs hzo hVS => ?_⟩
    obtain ⟨W3, c1, c2, _⟩ := hVS
    refine ⟨SD, vK W3, rfl, c1, fun XL hXL => ?_⟩
    rw [vK_names]
    have hXn : ∀ t ∈ W3.map (·.1), t ≠ Str.ofString "Z" := fun t ht => by
      have : t ∈ (seenV n (knotsV n ks) zs).map (·.1) := by
        rw [← c2, vW_fst]
        exact ht
      obtain ⟨k, hk, hk2⟩ := knotsV_names (seenV_sub hzs this)
      have hn := (hks k hk).1.2.2
      rw [hk2] at hn
      rintro rfl
      exact absurd (hn 90 (by decide +kernel)).1 (by decide)
    have hXl : (W3.map (·.1)).length < 64 := by
      have : (W3.map (·.1)).length = (seenV n (knotsV n ks) zs).length := by
        rw [← c2]
        unfold vW
        rw [List.length_map, List.length_map]
      rw [this]
      exact (okK n1 (by omega) (by omega) hks hzs hzo).seenLen
    generalize W3.map (·.1) = xn at hXn hXl ⊢
    have x12 := x10.trans (e11.trans (Ex.new (o := .lst (xn.map V.str)) hXL))
    have hT12 := Ex.new (o := .lst (xn.map V.str)) hXL _ _ (e11 _ _ hT10)
    have hB12 := Ex.new (o := .lst (xn.map V.str)) hXL _ _ (e11 _ _ hB10)
    refine ⟨XL, rfl, ⟨_, sq_of upd_same⟩, ?_⟩
    refine for_list (xs := xn.map V.str) (fun i σ H' => ∃ (y7 : Option V) (kvs : List (L2.Key × V)), σ = [some (.int (n : Int)), some (.ref l), some (.ref D), some (.ref P0), some (.ref wp), some (.ref TT), some (.ref TB), y7] ∧ Ex H5 H' ∧ H' XL = some (.lst (xn.map V.str)) ∧ H' TT = some (.lst (nms.map V.str ++ [.str (Str.ofString "Z")])) ∧ H' TB = some (.dK kvs) ∧ kvs.length ≤ 70 + i ∧ valV kvs (.inr (Str.ofString "Z")) = some .non) ⟨none, kv2, rfl, x12, upd_same, hT12, hB12, by omega, z10⟩ (fun i σ H' _ hp => ?_) (fun i u σ H13 hu hp => ?_) (fun σ H13 hp => ?_)
    · obtain ⟨_, _, _, _, hm, _⟩ := hp
      exact sq_of hm
    · obtain ⟨y7, kvs, rfl, x, hm, ht, hb, hkv, hz⟩ := hp
      rw [List.getElem?_map] at hu
      obtain ⟨t, ht2, rfl⟩ := Option.map_eq_some_iff.mp hu
      have hi := (List.getElem?_eq_some_iff.mp ht2).1
      refine ⟨by show 1 ≤ sizeLine; decide, fun t1 ht1 => ⟨_, rfl, repK n1 n9 upd_same fun a H14 e14 => ?_⟩⟩
      have ee := (Ex.new (o := .tup [.int 1]) ht1).trans e14
      refine ⟨_, rfl, _, rfl, TB, _, rfl, DPut.k (k := .inr t) (ee _ _ hb) (sz_lt (by omega)), ?_⟩
      have ll := put_len (kvs := kvs) (k := .inr t) (v := V.ref a)
      refine ⟨_, _, rfl, (x.trans ee).mut hTB5, (upd_ne fun z => ?_).trans (ee _ _ hm), (upd_ne hTBT.symm).trans (ee _ _ ht), upd_same, by omega, ?_⟩
      · rw [z, hb] at hm
        cases hm
      · rw [valV_put, if_neg fun z => hXn t (List.mem_of_getElem? ht2) (Sum.inr.inj z).symm]
        exact hz
    obtain ⟨y7, kvs, rfl, x, hm, ht, hb, hkv, hz⟩ := hp
    refine ⟨_, rfl, _, rfl, _, rfl, .ref wp, D, n, knotsV n ks, ys, rfl, hw5.mono x, hV5.mono x, ok, fun H15 e15 => ⟨_, rfl, ?_⟩⟩
    have ht := e15 _ _ ht
    have hb := e15 _ _ hb
    have q15 := q5 _ (x.trans e15)
    refine ⟨_, rfl, _, rfl, TT, _, rfl, .inl (sq_of ht), _, _, rfl, rfl, TT, _, _, .str (Str.ofString "Z"), rfl, rfl, sq_of ht, ?_, rfl, ?_⟩
    · unfold atI
      rw [ixK (j := (nms.map V.str).length) (by rw [List.length_append, show [V.str (Str.ofString "Z")].length = 1 from rfl]; omega) (by rw [List.length_append]; show (nms.map V.str).length < (nms.map V.str).length + 1; omega)]
      show (nms.map V.str ++ [.str (Str.ofString "Z")])[(nms.map V.str).length]? = _
      rw [List.getElem?_append_right (Nat.le_refl _), Nat.sub_self]
      rfl
    rw [decide_eq_true rfl]
    refine ⟨_, rfl, ?_⟩
    refine ⟨_, rfl, TB, .non, rfl, by rw [← hz]; exact DGet.k (k := .inr (Str.ofString "Z")) hb, rfl, ?_⟩
    rw [decide_eq_true rfl]
    exact q15
end
end Eyes

set_option Elab.async false
set_option linter.all false
set_option maxRecDepth 100000
set_option maxHeartbeats 4000000
/-! A title that is not taken. -/
namespace Eyes
open PySem PySem.Spec PyProof.Rows L2 Evl TL
def spTtlN : Sp := fun vs H Q _ => ∃ (b tk : Addr) (G : Hp) (ts : List Str), vs = [.ref b, .ref tk] ∧ At b G H ∧ G tk = some (.lst (ts.map V.str)) ∧ ts.length ≤ 20 ∧ ∀ z H', nm z → z ∉ ts → At b G H' → Q (.str z) H'
section
variable {P : Program} {w : World} {K : PySem.W.Frag} {mg : Str → Option Value} {base : Heap} {AA : Adr}
end
end Eyes

set_option Elab.async false
set_option linter.all false
set_option maxRecDepth 100000
set_option maxHeartbeats 8000000
/-! The law: whole worlds from ties. -/
namespace Eyes
open PySem PySem.Spec PyProof.Rows L2 Evl TL
theorem size9 {kx : V} (h : kx ∈ [V.int 4, .int 5, .int 3, .int 2, .int 6, .int 1, .int 9, .int 5]) : ∃ n : Nat, kx = .int (n : Int) ∧ 1 ≤ n ∧ n ≤ 9 := by
  simp only [List.mem_cons, List.not_mem_nil, or_false] at h
  rcases h with rfl | rfl | rfl | rfl | rfl | rfl | rfl | rfl
  · exact ⟨4, rfl, by decide, by decide⟩
  · exact ⟨5, rfl, by decide, by decide⟩
  · exact ⟨3, rfl, by decide, by decide⟩
  · exact ⟨2, rfl, by decide, by decide⟩
  · exact ⟨6, rfl, by decide, by decide⟩
  · exact ⟨1, rfl, by decide, by decide⟩
  · exact ⟨9, rfl, by decide, by decide⟩
  · exact ⟨5, rfl, by decide, by decide⟩
def WRow (C : Addr) (G : Hp) (u : V) : Prop := ∃ (p : Addr) (x : V) (n : Nat) (D : Addr) (ks : List Knot) (ys : List Str), u = .ref p ∧ G p = some (.tup [x, .int (n : Int), .ref D]) ∧ WorldAt C G x n (seenV n (knotsV n ks) ys) ∧ VwAt G D n (knotsV n ks) ∧ VwOk n (knotsV n ks) ys
theorem WRow.keepN {C : Addr} {G G' : Hp} {u : V} (h : WRow C G u) (e : Eyes.keepN G G') : WRow C G' u := by
  obtain ⟨p, x, n, D, ks, ys, rfl, h1, h2, h3, h4⟩ := h
  exact ⟨p, x, n, D, ks, ys, rfl, e _ _ h1 (fun _ => nofun), h2.keepN e, h3.keepN e, h4⟩
theorem Knots.keepN {G G' : Hp} {us : List V} {ks : List Knot} (h : Knots G us ks) (e : Eyes.keepN G G') : Knots G' us ks := ⟨h.1, fun i u k h1 h2 => by
  obtain ⟨p, hp, hq⟩ := h.2 i u k h1 h2
  exact ⟨p, hp, e _ _ hq (fun _ => nofun)⟩⟩
theorem ok0 {n : Nat} (n1 : 1 ≤ n) (n9 : n ≤ 9) : VwOk n [] [] := ⟨n1, by omega, by decide, List.nodup_nil, fun e he => (nomatch he), fun t => isP_alone n, List.Perm.refl _, rfl⟩
theorem gP_one {n : Nat} {t0 t : Str} : gP n [(t0, alone n)] t = alone n := by
  unfold gP wGet
  rw [List.find?_cons]
  cases decide (t0 = t) <;> rfl
theorem gP_tie0 {n : Nat} {t0 : Str} (t : Str) : gP n (knotsV n [(t0, n, n)]) t = alone n := by
  rw [knotsV_gP]
  unfold prsK
  rw [List.filter_cons]
  split
  · exact mrg1_self (alone n) n
  · rfl
theorem size24 {kx : V} (h : kx ∈ [V.int 40, .int 300, .int 2399, .int 2400]) : ∃ n : Nat, kx = .int (n : Int) ∧ 1 ≤ n ∧ n ≤ 2400 := by
  simp only [List.mem_cons, List.not_mem_nil, or_false] at h
  rcases h with rfl | rfl | rfl | rfl
  · exact ⟨40, rfl, by decide, by decide⟩
  · exact ⟨300, rfl, by decide, by decide⟩
  · exact ⟨2399, rfl, by decide, by decide⟩
  · exact ⟨2400, rfl, by decide, by decide⟩
theorem nm_b : Eyes.nm (Str.ofString "b") := by
  refine ⟨by decide +kernel, by decide +kernel, ?_⟩
  decide +kernel
theorem nm_aa : Eyes.nm (Str.ofString "aa") := by
  refine ⟨by decide +kernel, by decide +kernel, ?_⟩
  decide +kernel
theorem due3 {H : Hp} {k : Nat} {c : Bool} : ∀ (i : Nat) (u v : V), [V.bl c, .int 2400, .int 2400][i]? = some u → [V.bl c, .int 2400, .int 2400][i]? = some v → Sd H (k + 1) u v
  | 0, _, _, h1, h2 => by
    cases h1
    cases h2
    exact .bl' rfl
  | 1, _, _, h1, h2 => by
    cases h1
    cases h2
    exact .int'
  | 2, _, _, h1, h2 => by
    cases h1
    cases h2
    exact .int'
  | i + 3, _, _, h1, _ => by cases h1
def spLaw (K : PySem.W.Frag) : Sp := fun vs H Q _ => ∃ (a : Addr) (ns : List Int), vs = [.ref a] ∧ SqL K H a (ns.map V.int) ∧ ns.length ≤ 63 ∧ ∀ H', Q (.bl true) H'
section
variable {P : Program} {w : World} {K : PySem.W.Frag} {mg : Str → Option Value} {base : Heap} {AA : Adr}
theorem ok_law (T : Txt K mg AA) : Pr P w K mg base "law" s_law p_law 60 (spLaw K) := by
  refine pr_mk T.f_law sc_law (fun vs H Q E h => ?_) (fun f cdv A outer s H vs Q E hr h => ?_)
  · obtain ⟨a, ns, rfl, _⟩ := h
    rfl
  · obtain ⟨a, ns, rfl, hS, hlen, q⟩ := h
    refine ⟨_, (pss_cons (ps_set (i := 1) sc_law.nd rfl (.inl rfl) (pcall (ok_law_bag T) hr (pa_cons (pv 0) pa_nil)))
      (pss_cons (ps_set (i := 2) sc_law.nd rfl (.inl rfl) (pe_lst pa_nil))
      (Evl.pss_cut (ps_for PassesOwn.never rfl (pi_range1 (by rfl) T.n_range (pa_cons pe_int pa_nil)) (pg_name (i := 3) sc_law.nd rfl (.inl rfl))
      (pss_cons (ps_set (i := 4) sc_law.nd rfl (.inr rfl) (pcall (ok_law_of T) hr (pa_cons (pv 1) (pa_cons (pe_lst (pa_cons pe_int (pa_cons pe_int (pa_cons pe_int (pa_cons pe_int (pa_cons pe_int (pa_cons pe_int (pa_cons pe_int (pa_cons pe_int pa_nil))))))))) pa_nil))))
      (pss_cons (ps_set (i := 5) sc_law.nd rfl (.inl rfl) (pcall (ok_law_titles T) hr (pa_cons (pv 1) (pa_cons (pe_op op_add pe_int (pcall (ok_law_draw T) hr (pa_cons (pv 1) (pa_cons pe_int pa_nil)))) pa_nil))))
      (pss_cons (ps_set (i := 6) sc_law.nd rfl (.inl rfl) (pcall (ok_law_knots T) hr (pa_cons (pv 1) (pa_cons (pv 5) (pa_cons (pv 4) (pa_cons (pe_op op_add pe_int (pcall (ok_law_draw T) hr (pa_cons (pv 1) (pa_cons pe_int pa_nil)))) pa_nil))))))
      (pss_cons (ps_set (i := 7) sc_law.nd rfl (.inl rfl) (pcall (ok_law_views T) hr (pa_cons (pv 4) (pa_cons (pv 6) pa_nil))))
      (pss_cons (ps_expr (pe_bm PySem.F.plainAttrs_list PySem.F.slot_list_append PySem.F.type_list_append mt_append (pv 2) (pa_cons (pe_tup (pa_cons (pmake T.m_World (ok_World___init T) hr (pa_cons (pv 4) (pa_cons (pv 6) pa_nil))) (pa_cons (pv 4) (pa_cons (pv 7) pa_nil)))) pa_nil)))
      (pss_cons (ps_if (PW.pt (pw_or (pt_not (pt_val (pcall (ok_law_ways_so T) hr (pa_cons (pv 1) (pa_cons (pv 4) (pa_cons (pv 6) (pa_cons (pv 7) pa_nil))))))) (pw_or1 (pt_not (pt_val (pcall (ok_law_unlike_so T) hr (pa_cons (pv 1) (pa_cons (pv 5) (pa_cons (pv 4) (pa_cons (pv 6) (pa_cons (pv 7) pa_nil)))))))))))
      (pss_one (ps_ret pe_bl))
      pss_nil)
      (pss_cons (ps_if (pt_not (pt_val (pcall (ok_law_copies_so T) hr (pa_cons (pv 4) (pa_cons (pv 6) (pa_cons (pv 7) pa_nil))))))
      (pss_one (ps_ret pe_bl))
      pss_nil)
      (pss_cons (ps_set (i := 8) sc_law.nd rfl (.inr rfl) (pe_lst (pa_cons (pmake0 (K := K) rfl T.m_World (ok_World___init0 T) hr (pa_cons (pv 4) pa_nil)) (pa_cons (pmake T.m_World (ok_World___init T) hr (pa_cons (pv 4) (pa_cons (pe_lst pa_nil) pa_nil))) (pa_cons (psta (ok_World_partedN T) hr (pe_glob (v := .ref AA.World) (by rfl) T.m_World rfl) (pa_cons (pv 4) (pa_cons pe_dnewK pa_nil))) (pa_cons (pmake T.m_World (ok_World___init T) hr (pa_cons (pv 4) (pa_cons (pe_lst (pa_cons (pe_tup (pa_cons (pe_ix (ix_listK (K := K) rfl) (pv 5) pe_int (fun _ _ => rfl)) (pa_cons (pv 4) (pa_cons (pv 4) pa_nil)))) pa_nil)) pa_nil))) (pa_cons (psta (ok_World_partedN T) hr (pe_glob (v := .ref AA.World) (by rfl) T.m_World rfl) (pa_cons (pv 4) (pa_cons (pe_disp (pps_cons (pe_ix (ix_listK (K := K) rfl) (pv 5) pe_int (fun _ _ => rfl)) (pcall (ok_law_alone T) hr (pa_cons (pv 4) pa_nil)) pps_nil) (by rfl) (by rfl) (fun z => by cases z) (by decide)) pa_nil))) pa_nil)))))))
      (pss_one (ps_if (PW.pt (pw_or (pt_not (pt_val (pe_callB (cr_all rfl) (by rfl) T.n_all PyProof.Rows.boot_all (pa_cons (pe_lc (own := [("_law_w", 9)]) (g := gName 9) (tt := tYes) rfl sc_law.nd (pi_list (pv 8)) (blkOk_by (own := [("_law_w", 9)]) (N := n_law) (sc := defScope s_law) (by decide +kernel)) (fun _ _ _ _ _ => (pg_name (i := 9) sc_law.nd rfl (.inl rfl))) (fun _ _ _ _ _ => pts_nil) (fun _ _ _ _ _ => (pcall (ok_law_world_so T) hr (pa_cons (pv 9) (pa_cons (pv 4) (pa_cons pe_dnewK pa_nil)))))) pa_nil)))) (pw_or1 (pt_not (pt_val (pcall (ok_law_sd T 12) hr (pa_cons (pe_lc (own := [("_law_w", 9)]) (g := gName 9) (tt := tYes) rfl sc_law.nd (pi_list (pv 8)) (blkOk_by (own := [("_law_w", 9)]) (N := n_law) (sc := defScope s_law) (by decide +kernel)) (fun _ _ _ _ _ => (pg_name (i := 9) sc_law.nd rfl (.inl rfl))) (fun _ _ _ _ _ => pts_nil) (fun _ _ _ _ _ => (pe_cmpR (op_eqOwnC rfl rfl rfl rfl rfl (ok_World___eqA T) hr (by decide)) (pv 9) (pe_ix (ix_listK (K := K) rfl) (pv 8) pe_int (fun _ _ => rfl)) (nomark _)))) (pa_cons (pe_op op_rep (pe_lst (pa_cons pe_bl pa_nil)) pe_int) pa_nil))))))))
      (pss_one (ps_ret pe_bl))
      pss_nil)))))))))))
      (Evl.pss_cut (ps_if (pt_cmpR op_eq (pcall (ok_law_draw T) hr (pa_cons (pv 1) (pa_cons pe_int pa_nil))) pe_int (nomark _))
      (pss_cons (ps_set (i := 4) sc_law.nd rfl (.inr rfl) (pcall (ok_law_of T) hr (pa_cons (pv 1) (pa_cons (pe_lst (pa_cons pe_int (pa_cons pe_int (pa_cons pe_int (pa_cons pe_int pa_nil))))) pa_nil))))
      (pss_cons (ps_set (i := 6) sc_law.nd rfl (.inl rfl) (pe_op op_cat (pcall (ok_law_knots T) hr (pa_cons (pv 1) (pa_cons (pe_lst (pa_cons pe_str (pa_cons pe_str pa_nil))) (pa_cons (pv 4) (pa_cons (pe_op op_add pe_int (pcall (ok_law_draw T) hr (pa_cons (pv 1) (pa_cons pe_int pa_nil)))) pa_nil))))) (pe_lst (pa_cons (pe_tup (pa_cons pe_str (pa_cons (pv 4) (pa_cons pe_int pa_nil)))) pa_nil))))
      (pss_one (ps_if (pt_not (pt_val (pcall (ok_law_world_so T) hr (pa_cons (pmake T.m_World (ok_World___init T) hr (pa_cons (pv 4) (pa_cons (pv 6) pa_nil))) (pa_cons (pv 4) (pa_cons (pcall (ok_law_views T) hr (pa_cons (pv 4) (pa_cons (pv 6) pa_nil))) pa_nil))))))
      (pss_one (ps_ret pe_bl))
      pss_nil))))
      pss_nil)
      (Evl.pss_cut (ps_for PassesOwn.never rfl (pi_list (pv 2)) (pg_tup (by rfl) (pgs_cons (pg_name (i := 9) sc_law.nd rfl (.inl rfl)) (pgs_cons (pg_name (i := 4) sc_law.nd rfl (.inr rfl)) (pgs_cons (pg_name (i := 7) sc_law.nd rfl (.inl rfl)) pgs_nil))))
      (pss_one (ps_if (pt_not (pt_val (pcall (ok_law_world_so T) hr (pa_cons (pv 9) (pa_cons (pv 4) (pa_cons (pv 7) pa_nil))))))
      (pss_one (ps_ret pe_bl))
      pss_nil)))
      (pss_cons (ps_par (i := 10) (j := 11) rfl sc_law.nd rfl rfl (by decide) rfl rfl (pa_cons (pe_ix (ix_listK (K := K) rfl) (pv 2) pe_int (fun _ _ => rfl)) (pa_cons (pe_ix (ix_listK (K := K) rfl) (pv 2) pe_int (fun _ _ => rfl)) pa_nil)) rfl)
      (pss_cons (ps_set (i := 12) sc_law.nd rfl (.inl rfl) (pe_and (pe_cmpR op_eq (pe_ix (ix_tupK (K := K) rfl) (pv 10) pe_int (fun _ _ => rfl)) (pe_ix (ix_tupK (K := K) rfl) (pv 11) pe_int (fun _ _ => rfl)) (nomark _)) (pe_one (pe_cmpR (op_eqDBK (K := K) rfl (u65 hr)) (pcall (ok_law_seen T) hr (pa_cons (pe_ix (ix_tupK (K := K) rfl) (pv 10) pe_int (fun _ _ => rfl)) (pa_cons (pe_ix (ix_tupK (K := K) rfl) (pv 10) pe_int (fun _ _ => rfl)) pa_nil))) (pcall (ok_law_seen T) hr (pa_cons (pe_ix (ix_tupK (K := K) rfl) (pv 11) pe_int (fun _ _ => rfl)) (pa_cons (pe_ix (ix_tupK (K := K) rfl) (pv 11) pe_int (fun _ _ => rfl)) pa_nil))) (nomark _)))))
      (pss_one (ps_ret (pcall (ok_law_sd T 12) hr (pa_cons (pe_lst (pa_cons (pe_cmpR (op_eqOwnC rfl rfl rfl rfl rfl (ok_World___eqA T) hr (by decide)) (pe_ix (ix_tupK (K := K) rfl) (pv 10) pe_int (fun _ _ => rfl)) (pe_ix (ix_tupK (K := K) rfl) (pv 11) pe_int (fun _ _ => rfl)) (nomark _)) (pa_cons (ClX.pe_cval (pe_glob (v := .ref AA.World) (by rfl) T.m_World rfl)) (pa_cons (pe_con (pe_ix (ix_tupK (K := K) rfl) (pv 10) pe_int (fun _ _ => rfl)) rfl) pa_nil)))) (pa_cons (pe_lst (pa_cons (pv 12) (pa_cons pe_int (pa_cons pe_int pa_nil)))) pa_nil)))))))))))), ?_⟩
    refine ⟨_, rfl, a, ns, rfl, hS, fun b H1 hb hA1 => ?_⟩
    refine ⟨by show 0 ≤ sizeLine; decide, fun WL hWL => ?_⟩
    have hA2 := hA1.new (o := .lst []) hWL
    have hG2 := upd_same (H := H) (a := WL) (o := HO.lst [])
    generalize upd H WL (.lst []) = G2 at hA2 hG2
    generalize upd H1 WL (.lst []) = H2 at hA2 ⊢
    refine ⟨fun σ H' => ∃ (G' : Hp) (ws : List V) (y3 y4 y5 y6 y7 y8 : Option V), σ = [some (.ref a), some (.ref b), some (.ref WL), y3, y4, y5, y6, y7, y8, none, none, none, none] ∧ At b G' H' ∧ G' WL = some (.lst ws) ∧ ws.length = 2 ∧ ∀ u ∈ ws, WRow AA.World G' u, ?_, fun σ H3 hM => ?_⟩
    · refine ⟨_, rfl, by decide, by decide, ?_⟩
      refine for_it walk_range (fun i σ H' => ∃ (G' : Hp) (ws : List V) (y3 y4 y5 y6 y7 y8 : Option V), σ = [some (.ref a), some (.ref b), some (.ref WL), y3, y4, y5, y6, y7, y8, none, none, none, none] ∧ At b G' H' ∧ G' WL = some (.lst ws) ∧ ws.length = i ∧ ∀ u ∈ ws, WRow AA.World G' u) ⟨G2, [], none, none, none, none, none, none, rfl, hA2, hG2, rfl, fun u hu => nomatch hu⟩ (fun _ _ _ _ _ => True.intro) (fun i kv σ H3 H4 hi hp hy => ?_) (fun σ H3 hp => hp)
      obtain ⟨rfl, rfl⟩ := hy
      obtain ⟨G3, ws, y3, y4, y5, y6, y7, y8, rfl, hA3, hG3, hwl, hws⟩ := hp
      -- size
      refine ⟨_, rfl, by show 8 ≤ sizeLine; decide, fun L hL => ⟨b, .ref L, _, _, rfl, hA3.new hL, .inl ⟨L, rfl, sq_of upd_same⟩, by decide, by decide, fun kx H4 hkx hA4 => ?_⟩⟩
      obtain ⟨n, rfl, n1, n9⟩ := size9 hkx
      have hA4 := hA4.weak (Ex.new (hA3.nh hL))
      -- titles
      refine ⟨_, rfl, _, rfl, b, 2, G3, rfl, hA4, by decide, by decide, fun sz H5 z0 z1 hA5 => ⟨3, sz, rfl, rfl, b, 3 + sz, G3, rfl, hA5, by omega, by omega, fun tla ts H6 htl hA6 hlt hnm => ?_⟩⟩
      have x6 : Ex G3 (upd G3 tla (.lst (ts.map V.str))) := Ex.new htl
      have hT6 := upd_same (H := G3) (a := tla) (o := HO.lst (ts.map V.str))
      generalize upd G3 tla (.lst (ts.map V.str)) = G6 at hA6 x6 hT6
      have hts0 : 0 < ts.length := by omega
      have hts4 : ts.length ≤ 4 := by omega
      have hne : ts ≠ [] := fun e => by
        rw [e] at hts0
        exact absurd hts0 (by decide)
      -- knots
      refine ⟨_, rfl, _, rfl, _, rfl, _, rfl, b, 9, G6, rfl, hA6, by decide, by decide, fun d2 H7 e0 e1 hA7 => ⟨1, d2, rfl, rfl, ?_⟩⟩
      obtain ⟨c2, rfl⟩ := Int.eq_ofNat_of_zero_le e0
      have e12 : ((1 + c2 : Nat) : Int) = (1 : Int) + (c2 : Int) := by omega
      refine ⟨b, tla, G6, ts, n, 1 + c2, (by rw [e12]; rfl), hA7, hT6, hne, by omega, n1, by omega, by omega, fun D1 us ks G8 H8 x8 hA8 hD1 hDn1 hK hkl hks => ?_⟩
      have hkn : ∀ k ∈ ks, Eyes.nm k.1 ∧ inK n k := fun k hk => ⟨hnm _ (hks k hk).1, ⟨(hks k hk).2.1, (hks k hk).2.2.1⟩, (hks k hk).2.2.2.1, (hks k hk).2.2.2.2⟩
      have hkl9 : ks.length ≤ 9 := by omega
      have hkl1 : 1 ≤ ks.length := by omega
      -- views
      refine ⟨_, rfl, _, rfl, n, D1, us, ks, rfl, by omega, hA8.ex _ _ hD1, hK.mono hA8.ex, by omega, (fun k hk => (hks k hk).2), fun Dv H9 e9 hDv hVw => ?_⟩
      obtain ⟨G9, hA9, x9, gN9, _⟩ := hA8.allF e9
      have hV9 := hVw.keepL gN9
      have hD9 := x9 _ _ hD1
      have hK9 := hK.mono x9
      have hT9 := x9 _ _ (x8 _ _ hT6)
      have hW9 := (x6.trans (x8.trans x9)) _ _ hG3
      have hws9 := fun u hu => (hws u hu).keepN (keepN.ex (x6.trans (x8.trans x9)))
      have hne1 : tla ≠ WL := fun z => by
        rw [z, hG3] at htl
        cases htl
      have hne2 : D1 ≠ WL := fun z => by
        rw [z, x6 _ _ hG3] at hDn1
        cases hDn1
      clear hVw hDv e9 hA3 hA4 hA5 hA6 hA7 hA8 hws hG3 hK hD1 hDn1 hL hkx htl hT6 x6 x8 x9 e0 e1 z0 z1
      -- the row
      refine ⟨_, rfl, .inl ⟨rfl, ws, sq_of (hA9.ex _ _ hW9)⟩, _, rfl, _, rfl, fun wp wdx hx hdx hxd => ?_⟩
      have eX : Ex H9 (upd (upd H9 wdx (.own wp)) wp (.ins AA.World wdx [])) := (Ex.new hdx).trans (Ex.new ((upd_ne (Ne.symm hxd)).trans hx))
      refine ⟨wp, wdx, D1, n, us, ks, H9, rfl, hx, eX, upd_same, .inl (sq_of (hA9.ex _ _ hD9)), hK9.mono hA9.ex, by omega, tieK hkn, n1, by omega, fun H10 ys e10 hys hso hWd => ⟨rfl, ?_⟩⟩
      clear hx hdx hxd eX
      have ok := okK n1 (by omega) (by omega) hkn hys hso
      obtain ⟨G10, hA10, x10, gN10, _⟩ := hA9.allF e10
      have hw10 := hWd.keepN gN10
      refine ⟨_, rfl, _, rfl, by show 3 ≤ sizeLine; decide, fun rp hrp => ?_⟩
      have hA11 := hA10.new (o := .tup [.ref wp, .int (n : Int), .ref Dv]) hrp
      have x11 : Ex G10 (upd G10 rp (.tup [.ref wp, .int (n : Int), .ref Dv])) := Ex.new (hA10.nh hrp)
      have hR11 := upd_same (H := G10) (a := rp) (o := HO.tup [.ref wp, .int (n : Int), .ref Dv])
      generalize upd G10 rp (.tup [.ref wp, .int (n : Int), .ref Dv]) = G11 at hA11 x11 hR11
      generalize upd H10 rp (.tup [.ref wp, .int (n : Int), .ref Dv]) = H11 at hA11 ⊢
      have x911 := x10.trans x11
      have hW11 := x911 _ _ hW9
      refine ⟨WL, ws, _, rfl, rfl, hA11.ex _ _ hW11, sz_lt (by omega), ?_⟩
      have hA12 := hA11.put' (o' := .lst (ws ++ [.ref rp])) hW11
      have k12 : keepN G11 (upd G11 WL (.lst (ws ++ [.ref rp]))) := keepN.put hW11
      have hW12 := upd_same (H := G11) (a := WL) (o := HO.lst (ws ++ [.ref rp]))
      have hT12 : (upd G11 WL (.lst (ws ++ [.ref rp]))) tla = _ := (upd_ne hne1).trans (x911 _ _ hT9)
      have hD12 : (upd G11 WL (.lst (ws ++ [.ref rp]))) D1 = _ := (upd_ne hne2).trans (x911 _ _ hD9)
      have hK12 := (hK9.mono x911).keepN k12
      have hV12 := (hV9.mono x911).keepN k12
      have hws12 : ∀ u ∈ ws ++ [.ref rp], WRow AA.World (upd G11 WL (.lst (ws ++ [.ref rp]))) u := fun u hu => by
        rcases List.mem_append.mp hu with hu | hu
        · exact ((hws9 u hu).keepN (keepN.ex x911)).keepN k12
        · rw [List.mem_singleton.mp hu]
          exact ⟨rp, .ref wp, n, Dv, ks, ys, rfl, k12 _ _ hR11 (fun _ => nofun), (hw10.mono x11).keepN k12, hV12, ok⟩
      have hwl12 : (ws ++ [V.ref rp]).length = i + 1 := by
        rw [List.length_append, hwl]
        rfl
      generalize ws ++ [V.ref rp] = ws2 at hA12 k12 hW12 hT12 hD12 hK12 hV12 hws12 hwl12 ⊢
      generalize upd G11 WL (.lst ws2) = G12 at hA12 k12 hW12 hT12 hD12 hK12 hV12 hws12 ⊢
      generalize upd H11 WL (.lst ws2) = H12 at hA12 ⊢
      clear hA9 hA10 hA11 hw10 hR11 hW11 hW9 hws9 hT9 hD9 hK9 hV9 x911 x10 x11 gN9 gN10 e10 hWd hrp k12
      -- ways
      refine ⟨_, rfl, _, rfl, _, rfl, _, rfl, b, D1, Dv, G12, n, us, ks, rfl, hA12, hD12, hK12, hV12, n1, n9, by omega, hkn, fun G13 H13 x13 hA13 => ⟨_, rfl, iteF ?_⟩⟩
      have hT13 := x13 _ _ hT12
      have hD13 := x13 _ _ hD12
      refine ⟨_, rfl, _, rfl, _, rfl, _, rfl, _, rfl, b, tla, Dv, D1, G13, ts, n, us, ks, rfl, hA13, hT13, hts0, by omega, hnm, hD13, hK12.mono x13, hV12.mono x13, n1, n9, by omega, hkn, fun G14 H14 x14 hA14 => ⟨_, rfl, iteF ?_⟩⟩
      have x1214 := x13.trans x14
      refine ⟨_, rfl, _, rfl, _, rfl, Dv, D1, n, us, ks, rfl, (hA14.ex) _ _ (x1214 _ _ hD12), (hK12.mono x1214).mono hA14.ex, (hV12.mono x1214).mono hA14.ex, n1, n9, hkl1, by omega, hkn, fun H15 e15 => ⟨_, rfl, iteF ?_⟩⟩
      obtain ⟨G15, hA15, x15, gN15, _⟩ := hA14.allF e15
      have x1215 := x1214.trans x15
      have hT15 := x1215 _ _ hT12
      have hW15 := x1215 _ _ hW12
      have hws15 := fun u hu => (hws12 u hu).keepN (keepN.ex x1215)
      clear hA12 hA13 hA14 hT12 hT13 hD12 hD13 hK12 hV12 hws12 hW12 x13 x14 x1214 x15 x1215 e15 gN15
      -- bare worlds
      obtain ⟨t0, tr, rfl⟩ := List.exists_cons_of_ne_nil hne
      have hat : atI ((t0 :: tr).map V.str) 0 = some (.str t0) := by
        unfold atI
        rw [ixK (z := 0) (j := 0) rfl (by rw [List.length_map]; exact hts0)]
        rfl
      have hnm0 := hnm t0 (.head _)
      have k15 := hA15.ex
      have hT15H := k15 _ _ hT15
      refine fun dd hdd => ⟨_, rfl, fun sp sdx hx hdx hxd => ?_⟩
      have eX : Ex H15 (upd (upd H15 sdx (.own sp)) sp (.ins AA.World sdx [])) := (Ex.new hdx).trans (Ex.new ((upd_ne (Ne.symm hxd)).trans hx))
      refine ⟨sp, sdx, dd, n, [], [], H15, rfl, hx, eX, upd_same, .inr (hdd H15), ⟨rfl, fun i u k h => by cases h⟩, by decide, fun k hk => (nomatch hk), n1, by omega, fun H16 z1 e16 hz1 hs1 hW1 => ⟨rfl, ?_⟩⟩
      clear hx hdx hxd eX
      refine ⟨_, rfl, by show 0 ≤ sizeLine; decide, fun LE hLE => fun xp xdx hx hdx hxd => ?_⟩
      have eL := Ex.new (o := .lst []) hLE
      have eX : Ex (upd H16 LE (.lst [])) (upd (upd (upd H16 LE (.lst [])) xdx (.own xp)) xp (.ins AA.World xdx [])) := (Ex.new hdx).trans (Ex.new ((upd_ne (Ne.symm hxd)).trans hx))
      refine ⟨xp, xdx, LE, n, [], [], upd H16 LE (.lst []), rfl, hx, eX, upd_same, .inl (sq_of upd_same), ⟨rfl, fun i u k h => by cases h⟩, by decide, fun k hk => (nomatch hk), n1, by omega, fun H17 z2 e17 hz2 hs2 hW2 => ⟨rfl, ?_⟩⟩
      clear hx hdx hxd eX
      have e17 := eL.trans e17
      clear eL hLE
      refine ⟨rfl, _, rfl, fun DE hDE => ⟨DE, n, [], rfl, ⟨[], upd_same, rfl, fun e he => (nomatch he)⟩, (ok0 n1 n9).pre, fun t ht => (nomatch ht), by decide, fun u3 H18 e18 hu3 => ?_⟩⟩
      have e18 := (Ex.new (o := .dK []) hDE).trans e18
      have e1518 := e16.trans (e17.trans e18)
      refine ⟨_, rfl, _, rfl, tla, _, 0, .str t0, rfl, rfl, sq_of (e1518 _ _ hT15H), hat, _, rfl, _, rfl, by show 3 ≤ sizeLine; decide, fun p4 hp4 => ⟨by show 1 ≤ sizeLine; decide, fun l4 hl4 => fun xq xdx hx hdx hxd => ?_⟩⟩
      have e4 : Ex H18 (upd (upd H18 p4 (.tup [.str t0, .int (n : Int), .int (n : Int)])) l4 (.lst [.ref p4])) := (Ex.new hp4).trans (Ex.new hl4)
      have hp5 := (Ex.new (o := .lst [.ref p4]) hl4) _ _ (upd_same (H := H18) (a := p4) (o := HO.tup [.str t0, .int (n : Int), .int (n : Int)]))
      have hl5 := upd_same (H := upd H18 p4 (.tup [.str t0, .int (n : Int), .int (n : Int)])) (a := l4) (o := HO.lst [.ref p4])
      have hin0 : ∀ k ∈ [(t0, n, n)], Eyes.nm k.1 ∧ inK n k := fun k hk => by
        rw [List.mem_singleton.mp hk]
        exact ⟨hnm0, ⟨n1, Nat.le_refl _⟩, n1, Nat.le_refl _⟩
      generalize upd (upd H18 p4 (.tup [.str t0, .int (n : Int), .int (n : Int)])) l4 (.lst [.ref p4]) = H19 at e4 hp5 hl5 hx hdx hxd ⊢
      have eX : Ex H19 (upd (upd H19 xdx (.own xq)) xq (.ins AA.World xdx [])) := (Ex.new hdx).trans (Ex.new ((upd_ne (Ne.symm hxd)).trans hx))
      have hK19 : Knots H19 ([] ++ [.ref p4]) ([] ++ [(t0, n, n)]) := Knots.snoc ⟨rfl, fun i u k h => by cases h⟩ hp5
      refine ⟨xq, xdx, l4, n, _, [(t0, n, n)], H19, rfl, hx, eX, upd_same, .inl (sq_of hl5), hK19, by show 1 < 64; decide, tieK hin0, n1, by omega, fun H20 z4 e20 hz4 hs4 hW4 => ⟨rfl, ?_⟩⟩
      clear hx hdx hxd eX
      have e1820 := e4.trans e20
      refine ⟨rfl, _, rfl, fun p5 hp5 => ⟨_, rfl, tla, _, 0, .str t0, rfl, rfl, sq_of (Ex.new hp5 _ _ (e1820 _ _ (e1518 _ _ hT15H))), hat, _, rfl, n, rfl, by omega, fun pa hpa => ⟨Ex.new hpa _ _ upd_same, [(.inr t0, .ref pa)], rfl, by show 1 ≤ 15; decide, ?_⟩⟩⟩
      have hpap : pa ≠ p5 := fun z => by
        rw [z, upd_same] at hpa
        cases hpa
      have e5 : Ex H20 (upd (upd (upd H20 p5 (.dK [])) pa (.tup (nvs (alone n)))) p5 (.dK (mergeK [] [(.inr t0, .ref pa)]))) := ((Ex.new hp5).trans (Ex.new hpa)).mut hp5
      have hV5 : VwAt (upd (upd (upd H20 p5 (.dK [])) pa (.tup (nvs (alone n)))) p5 (.dK (mergeK [] [(.inr t0, .ref pa)]))) p5 n [(t0, alone n)] := ⟨[(t0, pa, alone n)], upd_same, rfl, fun e he => by
        rw [List.mem_singleton.mp he]
        exact ⟨(upd_ne hpap).trans upd_same, isP_alone n⟩⟩
      generalize upd (upd (upd H20 p5 (.dK [])) pa (.tup (nvs (alone n)))) p5 (.dK (mergeK [] [(.inr t0, .ref pa)])) = H21 at e5 hV5 ⊢
      clear hpa hp5 hpap
      refine ⟨p5, n, [(t0, alone n)], rfl, hV5, ⟨n1, by omega, List.nodup_cons.mpr ⟨(fun h => nomatch h), List.nodup_nil⟩, fun e he => ?_, fun t => by rw [gP_one]; exact isP_alone n⟩, fun t ht => ?_, by show 1 < 64; decide, fun u5 H22 e22 hu5 => ?_⟩
      · rw [List.mem_singleton.mp he]
        have := hnm0.2.1
        show t0.length ≤ 1000
        omega
      · rw [List.mem_singleton.mp ht]
        exact hnm0
      refine ⟨by show 5 ≤ sizeLine; decide, fun BL hBL => ?_⟩
      have e2022 := e5.trans e22
      have eB := Ex.new (o := .lst [.ref sp, .ref xp, u3, .ref xq, u5]) hBL
      have e1522 := e1518.trans (e1820.trans (e2022.trans eB))
      have stand0 : ∀ {H : Hp} {v : V} {m : Nat} {F : Str → List Nat}, WIs AA.World H v n m F → (∀ t, F t = alone n) → WorldAt AA.World H v n (seenV n [] []) := fun h e => h.stands (ok0 n1 n9) fun t => (e t).symm
      have hall : ∀ z ∈ [V.ref sp, .ref xp, u3, .ref xq, u5], WorldAt AA.World (upd H22 BL (.lst [.ref sp, .ref xp, u3, .ref xq, u5])) z n (seenV n [] []) := fun z hz => by
        simp only [List.mem_cons, List.not_mem_nil, or_false] at hz
        rcases hz with rfl | rfl | rfl | rfl | rfl
        · exact (stand0 (m := 0) ⟨_, z1, hW1, okK n1 (by omega) (by decide) (fun k hk => (nomatch hk)) hz1 hs1, Nat.le_refl _, fun _ => rfl⟩ fun _ => rfl).mono (e17.trans (e18.trans (e1820.trans (e2022.trans eB))))
        · exact (stand0 (m := 0) ⟨_, z2, hW2, okK n1 (by omega) (by decide) (fun k hk => (nomatch hk)) hz2 hs2, Nat.le_refl _, fun _ => rfl⟩ fun _ => rfl).mono (e18.trans (e1820.trans (e2022.trans eB)))
        · exact (stand0 hu3.is fun _ => rfl).mono (e1820.trans (e2022.trans eB))
        · exact (stand0 (m := (knotsV n [(t0, n, n)]).length) ⟨_, z4, hW4, okK n1 (by omega) (by show 1 ≤ 24; decide) hin0 hz4 hs4, Nat.le_refl _, fun _ => rfl⟩ gP_tie0).mono (e2022.trans eB)
        · exact (stand0 hu5.is fun t => gP_one).mono eB
      have hBl := upd_same (H := H22) (a := BL) (o := HO.lst [.ref sp, .ref xp, u3, .ref xq, u5])
      have h0 : [V.ref sp, .ref xp, u3, .ref xq, u5][0]? = some (.ref sp) := rfl
      have h5 : [V.ref sp, .ref xp, u3, .ref xq, u5].length = 5 := rfl
      have hat0 : atI [V.ref sp, .ref xp, u3, .ref xq, u5] 0 = some (.ref sp) := rfl
      generalize [V.ref sp, .ref xp, u3, .ref xq, u5] = bare at hBl h0 h5 hall e1522 hat0 ⊢
      generalize upd H22 BL (.lst bare) = H23 at hBl hall e1522 ⊢
      clear e16 e17 e18 e4 e20 e5 e22 e1820 e2022 e1518 hu3 hu5 hW1 hW2 hW4 hV5 hdd hBL hDE hp4 hl4 hK19 hl5 eB
      have hcn0 : CnV (seenV n [] []) := ⟨List.nodup_nil, .nil⟩
      have hb0 := hall _ (List.mem_of_getElem? h0)
      refine ⟨_, rfl, BL, rfl, ⟨_, sq_of hBl⟩, fun E2 hE2 => lc_it (walk_list (xs := bare)) (fun i H' => H23 E2 = none ∧ Ex H23 H' ∧ H' E2 = some (.lst ((List.replicate i true).map V.bl))) ⟨hE2, Ex.new hE2, upd_same⟩ (fun _ _ _ hp => sq_of (hp.2.1 _ _ hBl)) (fun i2 u H2 H3 hi hp hy => ?_) (fun H2 hp => ?_)⟩
      · obtain ⟨rfl, hu⟩ := hy
        obtain ⟨hE0, e2, h2⟩ := hp
        refine ⟨rfl, _, rfl, _, rfl, fun TT hTT => ?_⟩
        refine ⟨u, TT, n, [], [], rfl, ((hall u (List.mem_of_getElem? hu)).mono e2).mono (Ex.new hTT), ⟨[], upd_same, rfl, fun e he => (nomatch he)⟩, ok0 n1 n9, fun H4 e4 => ⟨_, e4 _ _ (Ex.new hTT _ _ h2), ?_, hE0, (e2.trans ((Ex.new hTT).trans e4)).mut hE0, ?_⟩⟩
        · rw [List.length_map, List.length_replicate]
          exact sz_lt (by omega)
        · rw [upd_same, List.replicate_succ', List.map_append]
          rfl
      obtain ⟨hE0, e2, h2⟩ := hp
      rw [h5] at h2
      refine ⟨E2, List.replicate 5 true, rfl, sq_of h2, _, rfl, iteF ?_⟩
      have hBl := e2 _ _ hBl
      have hall := fun z hz => (hall z hz).mono e2
      have hb0 := hb0.mono e2
      have e2 := e1522.trans e2
      clear h2 hE0 hE2 e1522
      refine ⟨_, rfl, BL, rfl, ⟨_, sq_of hBl⟩, fun E3 hE3 => lc_it (walk_list (xs := bare)) (fun i H' => H2 E3 = none ∧ Ex H2 H' ∧ H' E3 = some (.lst ((List.replicate i true).map V.bl))) ⟨hE3, Ex.new hE3, upd_same⟩ (fun _ _ _ hp => sq_of (hp.2.1 _ _ hBl)) (fun i2 u H4 H5 hi hp hy => ?_) (fun H4 hp => ?_)⟩
      · obtain ⟨rfl, hu⟩ := hy
        obtain ⟨hE0, e3, h2⟩ := hp
        refine ⟨rfl, _, rfl, _, rfl, BL, _, 0, .ref sp, rfl, rfl, sq_of (e3 _ _ hBl), hat0, eqG (by omega) (by omega) ((hall u (List.mem_of_getElem? hu)).mono e3) (hb0.mono e3) hcn0 hcn0 ⟨_, h2, ?_, hE0, e3.mut hE0, ?_⟩⟩
        · rw [List.length_map, List.length_replicate]
          exact sz_lt (by omega)
        · rw [upd_same, List.replicate_succ', List.map_append, decide_eq_true ⟨rfl, rfl⟩]
          rfl
      obtain ⟨hE0, e3, h2⟩ := hp
      rw [h5] at h2
      refine ⟨by show 1 ≤ sizeLine; decide, fun L1 hL1 => ⟨L1, 5, _, rfl, rfl, upd_same, by decide, by decide, by show 5 ≤ sizeLine; decide, fun L8 hL8 => ⟨_, _, rfl, Sd.lstB (l := List.replicate 5 true) (m := List.replicate 5 true) rfl (by decide) (Ex.new hL8 _ _ (Ex.new hL1 _ _ h2)) upd_same, fun H6 e6 => ⟨_, rfl, iteF ?_⟩⟩⟩⟩
      obtain ⟨G16, hA16, x16, _, _⟩ := hA15.allF (e2.trans (e3.trans ((Ex.new hL1).trans ((Ex.new hL8).trans e6))))
      exact ⟨G16, ws2, _, _, _, _, _, _, rfl, hA16, x16 _ _ hW15, hwl12, fun u hu => (hws15 u hu).keepN (keepN.ex x16)⟩
    obtain ⟨G3, ws, y3, y4, y5, y6, y7, y8, rfl, hA3, hG3, hwl, hws⟩ := hM
    -- many cases
    refine ⟨fun σ H' => ∃ (G' : Hp) (ws : List V) (y3 y4 y5 y6 y7 y8 : Option V), σ = [some (.ref a), some (.ref b), some (.ref WL), y3, y4, y5, y6, y7, y8, none, none, none, none] ∧ At b G' H' ∧ G' WL = some (.lst ws) ∧ ws.length = 2 ∧ ∀ u ∈ ws, WRow AA.World G' u, ?_, fun σ H4 hM => ?_⟩
    · refine ⟨_, rfl, b, 5, G3, rfl, hA3, by decide, by decide, fun d H4 d0 d1 hA4 => ⟨rfl, _, rfl, ?_⟩⟩
      cases hd : decide (V.int d = V.int 0) with
      | false => exact iteF ⟨G3, ws, _, _, _, _, _, _, rfl, hA4, hG3, hwl, hws⟩
      | true =>
        refine iteT ?_
        refine ⟨_, rfl, by show 4 ≤ sizeLine; decide, fun L hL => ⟨b, .ref L, _, _, rfl, hA4.new hL, .inl ⟨L, rfl, sq_of upd_same⟩, by decide, by decide, fun kx H5 hkx hA5 => ?_⟩⟩
        obtain ⟨n, rfl, n1, n9⟩ := size24 hkx
        have hA5 := hA5.weak (Ex.new (hA4.nh hL))
        -- knots
        refine ⟨_, rfl, by show 2 ≤ sizeLine; decide, fun tla htl => ?_⟩
        have hA6 := hA5.new (o := .lst ([Str.ofString "b", Str.ofString "aa"].map V.str)) htl
        have x6 : Ex G3 (upd G3 tla (.lst ([Str.ofString "b", Str.ofString "aa"].map V.str))) := Ex.new (hA5.nh htl)
        have hT6 := upd_same (H := G3) (a := tla) (o := HO.lst ([Str.ofString "b", Str.ofString "aa"].map V.str))
        have hnm : ∀ t ∈ [Str.ofString "b", Str.ofString "aa"], Eyes.nm t := fun t ht => by
          simp only [List.mem_cons, List.not_mem_nil, or_false] at ht
          rcases ht with rfl | rfl
          · exact nm_b
          · exact nm_aa
        refine ⟨_, rfl, _, rfl, b, 5, upd G3 tla (.lst ([Str.ofString "b", Str.ofString "aa"].map V.str)), rfl, hA6, by decide, by decide, fun d2 H7 e0 e1 hA7 => ⟨1, d2, rfl, rfl, ?_⟩⟩
        obtain ⟨c2, rfl⟩ := Int.eq_ofNat_of_zero_le e0
        have e12 : ((1 + c2 : Nat) : Int) = (1 : Int) + (c2 : Int) := by omega
        generalize upd G3 tla (.lst ([Str.ofString "b", Str.ofString "aa"].map V.str)) = G6 at hA6 hA7 x6 hT6
        refine ⟨b, tla, G6, [Str.ofString "b", Str.ofString "aa"], n, 1 + c2, (by rw [e12]; rfl), hA7, hT6, by simp, by decide, n1, by omega, by omega, fun D1 us ks G8 H8 x8 hA8 hD1 hDn1 hK hkl hks => ?_⟩
        have hkn : ∀ k ∈ ks, Eyes.nm k.1 ∧ inK n k := fun k hk => ⟨hnm _ (hks k hk).1, ⟨(hks k hk).2.1, (hks k hk).2.2.1⟩, (hks k hk).2.2.2.1, (hks k hk).2.2.2.2⟩
        have hkl9 : ks.length ≤ 5 := by omega
        have k8 := hA8.ex
        refine ⟨_, rfl, by show 3 ≤ sizeLine; decide, fun tp htp => ⟨by show 1 ≤ sizeLine; decide, fun tl htl2 => ⟨D1, tl, us, _, rfl, rfl, Ex.new htl2 _ _ (Ex.new htp _ _ (k8 _ _ hD1)), upd_same, by rw [hK.1]; exact sz_of (by show ks.length + 1 ≤ _; omega), fun ml hml => ?_⟩⟩⟩
        have eM : Ex H8 (upd (upd (upd H8 tp (.tup [.str (Str.ofString "aa"), .int (n : Int), .int ((1 : Nat) : Int)])) tl (.lst [.ref tp])) ml (.lst (us ++ [.ref tp]))) := ((Ex.new htp).trans (Ex.new htl2)).trans (Ex.new hml)
        have hKM : Knots (upd (upd (upd H8 tp (.tup [.str (Str.ofString "aa"), .int (n : Int), .int ((1 : Nat) : Int)])) tl (.lst [.ref tp])) ml (.lst (us ++ [.ref tp]))) (us ++ [.ref tp]) (ks ++ [(Str.ofString "aa", n, 1)]) := ((hK.mono k8).mono eM).snoc (((Ex.new htl2).trans (Ex.new hml)) _ _ upd_same)
        have hml2 := upd_same (H := upd (upd H8 tp (.tup [.str (Str.ofString "aa"), .int (n : Int), .int ((1 : Nat) : Int)])) tl (.lst [.ref tp])) (a := ml) (o := HO.lst (us ++ [.ref tp]))

        have hkx2 : ∀ k ∈ ks ++ [(Str.ofString "aa", n, 1)], Eyes.nm k.1 ∧ inK n k := fun k h => by
          rcases List.mem_append.mp h with h | h
          · exact hkn k h
          · rw [List.mem_singleton.mp h]
            exact ⟨nm_aa, ⟨n1, Nat.le_refl _⟩, Nat.le_refl _, n1⟩
        have hkxl : (ks ++ [(Str.ofString "aa", n, 1)]).length ≤ 6 := by
          rw [List.length_append]
          show ks.length + 1 ≤ 6
          omega
        generalize ks ++ [(Str.ofString "aa", n, 1)] = kx2 at hkx2 hkxl hKM
        refine ⟨_, rfl, _, rfl, fun wp wdx hx hdx hxd => ?_⟩
        refine ⟨wp, wdx, ml, n, _, kx2, _, rfl, hx, (Ex.new hdx).trans (Ex.new ((upd_ne (Ne.symm hxd)).trans hx)), upd_same, .inl (sq_of hml2), hKM, by omega, tieK hkx2, n1, by omega, fun H10 ys e10 hys hso hW => ⟨rfl, ?_⟩⟩
        refine ⟨_, rfl, _, rfl, _, rfl, n, ml, _, kx2, rfl, by omega, e10 _ _ hml2, hKM.mono e10, by omega, (fun k h => ⟨(hkx2 k h).2.1.1, (hkx2 k h).2.1.2, (hkx2 k h).2.2.1, (hkx2 k h).2.2.2⟩), fun DM H11 e11 hDM hVM => ?_⟩
        refine ⟨.ref wp, DM, n, knotsV n kx2, ys, rfl, hW.mono e11, hVM, okK n1 (by omega) (by omega) hkx2 hys hso, fun H12 e12 => ⟨_, rfl, iteF ?_⟩⟩
        obtain ⟨G12, hA12, x12, _, _⟩ := hA8.allF (eM.trans (e10.trans (e11.trans e12)))
        have x312 := x6.trans (x8.trans x12)
        exact ⟨G12, ws, _, _, _, _, _, _, rfl, hA12, x312 _ _ hG3, hwl, fun u hu => (hws u hu).keepN (keepN.ex x312)⟩
    clear hA3 hG3 hwl hws
    obtain ⟨G4, ws, y3, y4, y5, y6, y7, y8, rfl, hA4, hG4, hwl, hws⟩ := hM
    -- still so
    refine ⟨fun σ H' => ∃ (G' : Hp) (y3 y4 y5 y6 y7 y8 y9 : Option V), σ = [some (.ref a), some (.ref b), some (.ref WL), y3, y4, y5, y6, y7, y8, y9, none, none, none] ∧ At b G' H' ∧ G' WL = some (.lst ws) ∧ ∀ u ∈ ws, WRow AA.World G' u, ?_, fun σ H5 hM => ?_⟩
    · refine ⟨_, rfl, WL, rfl, ⟨_, sq_of (hA4.ex _ _ hG4)⟩, ?_⟩
      refine for_list (xs := ws) (fun i σ H' => ∃ (G' : Hp) (y3 y4 y5 y6 y7 y8 y9 : Option V), σ = [some (.ref a), some (.ref b), some (.ref WL), y3, y4, y5, y6, y7, y8, y9, none, none, none] ∧ At b G' H' ∧ G' WL = some (.lst ws) ∧ ∀ u ∈ ws, WRow AA.World G' u) ⟨G4, y3, y4, y5, y6, y7, y8, none, rfl, hA4, hG4, hws⟩ (fun i σ H' _ hp => ?_) (fun i u σ H5 hu hp => ?_) (fun σ H5 hp => hp)
      · obtain ⟨G', _, _, _, _, _, _, _, _, hA, hm, _⟩ := hp
        exact sq_of (hA.ex _ _ hm)
      · obtain ⟨G5, y3, y4, y5, y6, y7, y8, y9, rfl, hA5, hG5, hws5⟩ := hp
        obtain ⟨p, x, n, D, ks, ys, rfl, h1, h2, h3, h4⟩ := hws5 u (List.mem_of_getElem? hu)
        have k5 := hA5.ex
        refine ⟨p, _, rfl, st_of (k5 _ _ h1), rfl, _, _, rfl, _, _, rfl, _, _, rfl, rfl, ?_⟩
        refine ⟨_, rfl, _, rfl, _, rfl, x, D, n, knotsV n ks, ys, rfl, h2.mono k5, h3.mono k5, h4, fun H6 e6 => ⟨_, rfl, iteF ?_⟩⟩
        obtain ⟨G6, hA6, x6, _, _⟩ := hA5.allF e6
        exact ⟨G6, _, _, _, _, _, _, _, rfl, hA6, x6 _ _ hG5, fun u hu => (hws5 u hu).keepN (keepN.ex x6)⟩
    clear hA4 hG4 hws
    obtain ⟨G5, y3, y4, y5, y6, y7, y8, y9, rfl, hA5, hG5, hws⟩ := hM
    match ws, hwl with
    | [v0, v1], _ =>
    obtain ⟨p0, x0, m0, D0, ks0, ys0, rfl, r0, w0, z0, o0⟩ := hws v0 (.head _)
    obtain ⟨p1, x1, m1, D1, ks1, ys1, rfl, r1, w1, z1, o1⟩ := hws v1 (.tail _ (.head _))
    have k5 := hA5.ex
    have hG5 := k5 _ _ hG5
    have r0 := k5 _ _ r0
    have r1 := k5 _ _ r1
    have w0 := w0.mono k5
    have w1 := w1.mono k5
    have z0 := z0.mono k5
    have z1 := z1.mono k5
    have c0 := seen_cn (n := m0) o0.pm o0.nd o0.so
    have c1 := seen_cn (n := m1) o1.pm o1.nd o1.so
    have b0 := o0.n2
    have b1 := o1.n2
    obtain ⟨tk, hcr, hcv⟩ := T.k_World_LIMIT
    obtain ⟨tk2, hq⟩ := T.q_World_LIMIT
    refine ⟨_, rfl, WL, _, 0, .ref p0, rfl, rfl, sq_of hG5, rfl, _, rfl, WL, _, 1, .ref p1, rfl, rfl, sq_of hG5, rfl, _, _, rfl, ?_⟩
    refine ⟨_, rfl, p0, _, 1, .int (m0 : Int), rfl, rfl, st_of r0, rfl, _, rfl, p1, _, 1, .int (m1 : Int), rfl, rfl, st_of r1, rfl, rfl, ?_⟩
    by_cases e : m0 = m1
    · rw [show decide (V.int (m0 : Int) = V.int (m1 : Int)) = true from decide_eq_true (by rw [e])]
      refine ⟨_, rfl, iteT ?_⟩
      refine ⟨_, rfl, p0, _, 1, .int (m0 : Int), rfl, rfl, st_of r0, rfl, _, rfl, p0, _, 2, .ref D0, rfl, rfl, st_of r0, rfl, m0, D0, _, rfl, by omega, z0, o0.few, o0.nd, fun S0 H6 u0 e6 hS0 hu0 hv0 hVS0 => ?_⟩
      have r1 := e6 _ _ r1
      refine ⟨_, rfl, p1, _, 1, .int (m1 : Int), rfl, rfl, st_of r1, rfl, _, rfl, p1, _, 2, .ref D1, rfl, rfl, st_of r1, rfl, m1, D1, _, rfl, by omega, z1.mono e6, o1.few, o1.nd, fun S1 H7 u1 e7 hS1 hu1 hv1 hVS1 => ?_⟩
      have h0 := o0.one hu0 hv0
      have h1 := o1.one hu1 hv1
      subst h0
      subst h1
      obtain ⟨W0, a1, a2, a3⟩ := hVS0.mono e7
      obtain ⟨W1, b1, b2, b3⟩ := hVS1
      refine ⟨S0, S1, vK W0, vK W1, _, rfl, rfl, a1, b1, fun _ => vK_hits b3 a3, ?_⟩
      have hl : ((vK W0).length == (vK W1).length) = ((seenV m0 (knotsV m0 ks0) u0).length == (seenV m1 (knotsV m1 ks1) u1).length) := by
        rw [← a2, ← b2]
        unfold vK vW
        rw [List.length_map, List.length_map, List.length_map, List.length_map]
      rw [hl, a2, b2, cn_same c0 c1]
      have e67 := e6.trans e7
      have r0 := e67 _ _ r0
      have r1 := e7 _ _ r1
      have w0 := w0.mono e67
      have w1 := w1.mono e67
      refine ⟨_, rfl, p0, _, 0, x0, rfl, rfl, st_of r0, rfl, _, rfl, p1, _, 0, x1, rfl, rfl, st_of r1, rfl, eqG (by omega) (by omega) w0 w1 c0 c1 ?_⟩
      rw [show decide (m0 = m1 ∧ seenV m0 (knotsV m0 ks0) u0 = seenV m1 (knotsV m1 ks1) u1) = decide (seenV m0 (knotsV m0 ks0) u0 = seenV m1 (knotsV m1 ks1) u1) from decide_eq_decide.mpr ⟨fun h => h.2, fun h => ⟨e, h⟩⟩]
      obtain ⟨px, dxx, Dx, rfl, hpx, hVx⟩ := w0
      refine ⟨AA.World, _, _, _, rfl, hcr, hcv, ?_⟩
      refine ⟨_, rfl, p0, _, 0, .ref px, rfl, rfl, st_of r0, rfl, px, AA.World, dxx, _, _, _, rfl, hpx, T.c_World, hq, wf_no (by decide +kernel) (by decide +kernel), by show 3 ≤ sizeLine; decide, fun L1 hL1 => ⟨_, rfl, by show 3 ≤ sizeLine; decide, fun L8 hL8 => ?_⟩⟩
      exact ⟨_, _, rfl, .lst (Ex.new hL8 _ _ upd_same) upd_same rfl (by show 3 ≤ 90000; decide) due3, fun H9 _ => q H9⟩
    · rw [show decide (V.int (m0 : Int) = V.int (m1 : Int)) = false from decide_eq_false fun z => e (Int.ofNat.inj (V.int.inj z))]
      refine ⟨_, rfl, iteF ?_⟩
      refine ⟨_, rfl, p0, _, 0, x0, rfl, rfl, st_of r0, rfl, _, rfl, p1, _, 0, x1, rfl, rfl, st_of r1, rfl, eqG (by omega) (by omega) w0 w1 c0 c1 ?_⟩
      rw [decide_eq_false fun z => e z.1]
      obtain ⟨px, dxx, Dx, rfl, hpx, hVx⟩ := w0
      refine ⟨AA.World, _, _, _, rfl, hcr, hcv, ?_⟩
      refine ⟨_, rfl, p0, _, 0, .ref px, rfl, rfl, st_of r0, rfl, px, AA.World, dxx, _, _, _, rfl, hpx, T.c_World, hq, wf_no (by decide +kernel) (by decide +kernel), by show 3 ≤ sizeLine; decide, fun L1 hL1 => ⟨_, rfl, by show 3 ≤ sizeLine; decide, fun L8 hL8 => ?_⟩⟩
      exact ⟨_, _, rfl, .lst (Ex.new hL8 _ _ upd_same) upd_same rfl (by show 3 ≤ 90000; decide) due3, fun H9 _ => q H9⟩
end
end Eyes

set_option Elab.async false
set_option linter.all false
set_option maxRecDepth 100000
namespace Eyes
open PySem PySem.Spec PyProof.Rows L2
set_option maxHeartbeats 0 in
theorem txt_mk {K : PySem.W.Frag} {h : Heap} {mg : Str → Option Value} (X : K.In h) (G : h.Ns mainGlobals mg) {z_World : Addr} {z_InvalidName : Addr} {z_InvalidNumber : Addr} {z_InvalidText : Addr} {z_InvalidTie : Addr} {z_InvalidParting : Addr} {z_InvalidCase : Addr} {z_TooMany : Addr} {t20 : Tok} {t21 : Tok} {t28 : Tok} {t29 : Tok} {f30 : Addr} {oc30 : Value} {od30 : Option Addr} {an30 : Option Addr} {sl30 : Array (Option Value)} {kV30 : Value} {dc30 : Value} {pm30 : Value} {cd30 : Value} {ct30 : Value} {T30 : Addr} {dd30 : Addr} {oT30 : Obj} {nT30 : Nat} {f31 : Addr} {oc31 : Value} {od31 : Option Addr} {an31 : Option Addr} {sl31 : Array (Option Value)} {kV31 : Value} {dc31 : Value} {pm31 : Value} {cd31 : Value} {ct31 : Value} {T31 : Addr} {dd31 : Addr} {oT31 : Obj} {nT31 : Nat} {oE31 : Obj} {nE31 : Nat} {f32 : Addr} {oc32 : Value} {od32 : Option Addr} {an32 : Option Addr} {sl32 : Array (Option Value)} {kV32 : Value} {dc32 : Value} {pm32 : Value} {cd32 : Value} {ct32 : Value} {p32 : Addr} {rs32 : List Value} {f33 : Addr} {oc33 : Value} {od33 : Option Addr} {an33 : Option Addr} {sl33 : Array (Option Value)} {kV33 : Value} {dc33 : Value} {pm33 : Value} {cd33 : Value} {ct33 : Value} {p33 : Addr} {rs33 : List Value} {f34 : Addr} {oc34 : Value} {od34 : Option Addr} {an34 : Option Addr} {sl34 : Array (Option Value)} {kV34 : Value} {dc34 : Value} {pm34 : Value} {cd34 : Value} {ct34 : Value} {f35 : Addr} {oc35 : Value} {od35 : Option Addr} {an35 : Option Addr} {sl35 : Array (Option Value)} {kV35 : Value} {dc35 : Value} {pm35 : Value} {cd35 : Value} {ct35 : Value} {f36 : Addr} {oc36 : Value} {od36 : Option Addr} {an36 : Option Addr} {sl36 : Array (Option Value)} {kV36 : Value} {dc36 : Value} {pm36 : Value} {cd36 : Value} {ct36 : Value} {f37 : Addr} {oc37 : Value} {od37 : Option Addr} {an37 : Option Addr} {sl37 : Array (Option Value)} {kV37 : Value} {dc37 : Value} {pm37 : Value} {cd37 : Value} {ct37 : Value} {f38 : Addr} {oc38 : Value} {od38 : Option Addr} {an38 : Option Addr} {sl38 : Array (Option Value)} {kV38 : Value} {dc38 : Value} {pm38 : Value} {cd38 : Value} {ct38 : Value} {f39 : Addr} {oc39 : Value} {od39 : Option Addr} {an39 : Option Addr} {sl39 : Array (Option Value)} {kV39 : Value} {dc39 : Value} {pm39 : Value} {cd39 : Value} {ct39 : Value} {f40 : Addr} {oc40 : Value} {od40 : Option Addr} {an40 : Option Addr} {sl40 : Array (Option Value)} {kV40 : Value} {dc40 : Value} {pm40 : Value} {cd40 : Value} {ct40 : Value} {f41 : Addr} {oc41 : Value} {od41 : Option Addr} {an41 : Option Addr} {sl41 : Array (Option Value)} {kV41 : Value} {dc41 : Value} {pm41 : Value} {cd41 : Value} {ct41 : Value} {f42 : Addr} {oc42 : Value} {od42 : Option Addr} {an42 : Option Addr} {sl42 : Array (Option Value)} {kV42 : Value} {dc42 : Value} {pm42 : Value} {cd42 : Value} {ct42 : Value} {f43 : Addr} {oc43 : Value} {od43 : Option Addr} {an43 : Option Addr} {sl43 : Array (Option Value)} {kV43 : Value} {dc43 : Value} {pm43 : Value} {cd43 : Value} {ct43 : Value} {f44 : Addr} {oc44 : Value} {od44 : Option Addr} {an44 : Option Addr} {sl44 : Array (Option Value)} {kV44 : Value} {dc44 : Value} {pm44 : Value} {cd44 : Value} {ct44 : Value} {f45 : Addr} {oc45 : Value} {od45 : Option Addr} {an45 : Option Addr} {sl45 : Array (Option Value)} {kV45 : Value} {dc45 : Value} {pm45 : Value} {cd45 : Value} {ct45 : Value} {f46 : Addr} {oc46 : Value} {od46 : Option Addr} {an46 : Option Addr} {sl46 : Array (Option Value)} {kV46 : Value} {dc46 : Value} {pm46 : Value} {cd46 : Value} {ct46 : Value} {f47 : Addr} {oc47 : Value} {od47 : Option Addr} {an47 : Option Addr} {sl47 : Array (Option Value)} {kV47 : Value} {dc47 : Value} {pm47 : Value} {cd47 : Value} {ct47 : Value} {f48 : Addr} {oc48 : Value} {od48 : Option Addr} {an48 : Option Addr} {sl48 : Array (Option Value)} {kV48 : Value} {dc48 : Value} {pm48 : Value} {cd48 : Value} {ct48 : Value} {nm48 : Str} {qn48 : Str} {nn48 : Addr} {bs48 : List Value} {bm48 : List Value} {sb48 : List Value} {sn48 : List Str} {ab48 : Bool} {co48 : Option Bool} {dd48 : Option Addr} {k048 : Option Value} {k148 : Option Value} {k248 : Option Value} {k348 : Option Value} {k548 : Option Value} {f50 : Addr} {oc50 : Value} {od50 : Option Addr} {an50 : Option Addr} {sl50 : Array (Option Value)} {kV50 : Value} {dc50 : Value} {pm50 : Value} {cd50 : Value} {ct50 : Value} {nm50 : Str} {qn50 : Str} {nn50 : Addr} {bs50 : List Value} {bm50 : List Value} {sb50 : List Value} {sn50 : List Str} {ab50 : Bool} {co50 : Option Bool} {dd50 : Option Addr} {k050 : Option Value} {k150 : Option Value} {k250 : Option Value} {k350 : Option Value} {k550 : Option Value} {f52 : Addr} {oc52 : Value} {od52 : Option Addr} {an52 : Option Addr} {sl52 : Array (Option Value)} {kV52 : Value} {dc52 : Value} {pm52 : Value} {cd52 : Value} {ct52 : Value} {nm52 : Str} {qn52 : Str} {nn52 : Addr} {bs52 : List Value} {bm52 : List Value} {sb52 : List Value} {sn52 : List Str} {ab52 : Bool} {co52 : Option Bool} {dd52 : Option Addr} {k052 : Option Value} {k152 : Option Value} {k252 : Option Value} {k352 : Option Value} {k552 : Option Value} {f54 : Addr} {oc54 : Value} {od54 : Option Addr} {an54 : Option Addr} {sl54 : Array (Option Value)} {kV54 : Value} {dc54 : Value} {pm54 : Value} {cd54 : Value} {ct54 : Value} {nm54 : Str} {qn54 : Str} {nn54 : Addr} {bs54 : List Value} {bm54 : List Value} {sb54 : List Value} {sn54 : List Str} {ab54 : Bool} {co54 : Option Bool} {dd54 : Option Addr} {k054 : Option Value} {k154 : Option Value} {k254 : Option Value} {k354 : Option Value} {k554 : Option Value} {f56 : Addr} {oc56 : Value} {od56 : Option Addr} {an56 : Option Addr} {sl56 : Array (Option Value)} {kV56 : Value} {dc56 : Value} {pm56 : Value} {cd56 : Value} {ct56 : Value} {nm56 : Str} {qn56 : Str} {nn56 : Addr} {bs56 : List Value} {bm56 : List Value} {sb56 : List Value} {sn56 : List Str} {ab56 : Bool} {co56 : Option Bool} {dd56 : Option Addr} {k056 : Option Value} {k156 : Option Value} {k256 : Option Value} {k356 : Option Value} {k556 : Option Value} {f58 : Addr} {oc58 : Value} {od58 : Option Addr} {an58 : Option Addr} {sl58 : Array (Option Value)} {kV58 : Value} {dc58 : Value} {pm58 : Value} {cd58 : Value} {ct58 : Value} {nm58 : Str} {qn58 : Str} {nn58 : Addr} {bs58 : List Value} {bm58 : List Value} {sb58 : List Value} {sn58 : List Str} {ab58 : Bool} {co58 : Option Bool} {dd58 : Option Addr} {k058 : Option Value} {k158 : Option Value} {k258 : Option Value} {k358 : Option Value} {k558 : Option Value} {f60 : Addr} {oc60 : Value} {od60 : Option Addr} {an60 : Option Addr} {sl60 : Array (Option Value)} {kV60 : Value} {dc60 : Value} {pm60 : Value} {cd60 : Value} {ct60 : Value} {nm60 : Str} {qn60 : Str} {nn60 : Addr} {bs60 : List Value} {bm60 : List Value} {sb60 : List Value} {sn60 : List Str} {ab60 : Bool} {co60 : Option Bool} {dd60 : Option Addr} {k060 : Option Value} {k160 : Option Value} {k260 : Option Value} {k360 : Option Value} {k560 : Option Value} {f98 : Addr} {oc98 : Value} {od98 : Option Addr} {an98 : Option Addr} {sl98 : Array (Option Value)} {kV98 : Value} {dc98 : Value} {pm98 : Value} {cd98 : Value} {ct98 : Value} {f99 : Addr} {oc99 : Value} {od99 : Option Addr} {an99 : Option Addr} {sl99 : Array (Option Value)} {kV99 : Value} {dc99 : Value} {pm99 : Value} {cd99 : Value} {ct99 : Value} {f100 : Addr} {oc100 : Value} {od100 : Option Addr} {an100 : Option Addr} {sl100 : Array (Option Value)} {kV100 : Value} {dc100 : Value} {pm100 : Value} {cd100 : Value} {ct100 : Value} {f101 : Addr} {oc101 : Value} {od101 : Option Addr} {an101 : Option Addr} {sl101 : Array (Option Value)} {kV101 : Value} {dc101 : Value} {pm101 : Value} {cd101 : Value} {ct101 : Value} {f102 : Addr} {oc102 : Value} {od102 : Option Addr} {an102 : Option Addr} {sl102 : Array (Option Value)} {kV102 : Value} {dc102 : Value} {pm102 : Value} {cd102 : Value} {ct102 : Value} {f103 : Addr} {oc103 : Value} {od103 : Option Addr} {an103 : Option Addr} {sl103 : Array (Option Value)} {kV103 : Value} {dc103 : Value} {pm103 : Value} {cd103 : Value} {ct103 : Value} {f104 : Addr} {oc104 : Value} {od104 : Option Addr} {an104 : Option Addr} {sl104 : Array (Option Value)} {kV104 : Value} {dc104 : Value} {pm104 : Value} {cd104 : Value} {ct104 : Value} {f105 : Addr} {oc105 : Value} {od105 : Option Addr} {an105 : Option Addr} {sl105 : Array (Option Value)} {kV105 : Value} {dc105 : Value} {pm105 : Value} {cd105 : Value} {ct105 : Value} {f106 : Addr} {oc106 : Value} {od106 : Option Addr} {an106 : Option Addr} {sl106 : Array (Option Value)} {kV106 : Value} {dc106 : Value} {pm106 : Value} {cd106 : Value} {ct106 : Value} {f107 : Addr} {oc107 : Value} {od107 : Option Addr} {an107 : Option Addr} {sl107 : Array (Option Value)} {kV107 : Value} {dc107 : Value} {pm107 : Value} {cd107 : Value} {ct107 : Value} {f108 : Addr} {oc108 : Value} {od108 : Option Addr} {an108 : Option Addr} {sl108 : Array (Option Value)} {kV108 : Value} {dc108 : Value} {pm108 : Value} {cd108 : Value} {ct108 : Value} {f109 : Addr} {oc109 : Value} {od109 : Option Addr} {an109 : Option Addr} {sl109 : Array (Option Value)} {kV109 : Value} {dc109 : Value} {pm109 : Value} {cd109 : Value} {ct109 : Value} {f110 : Addr} {oc110 : Value} {od110 : Option Addr} {an110 : Option Addr} {sl110 : Array (Option Value)} {kV110 : Value} {dc110 : Value} {pm110 : Value} {cd110 : Value} {ct110 : Value} {f111 : Addr} {oc111 : Value} {od111 : Option Addr} {an111 : Option Addr} {sl111 : Array (Option Value)} {kV111 : Value} {dc111 : Value} {pm111 : Value} {cd111 : Value} {ct111 : Value} {f112 : Addr} {oc112 : Value} {od112 : Option Addr} {an112 : Option Addr} {sl112 : Array (Option Value)} {kV112 : Value} {dc112 : Value} {pm112 : Value} {cd112 : Value} {ct112 : Value} {f113 : Addr} {oc113 : Value} {od113 : Option Addr} {an113 : Option Addr} {sl113 : Array (Option Value)} {kV113 : Value} {dc113 : Value} {pm113 : Value} {cd113 : Value} {ct113 : Value} {f114 : Addr} {oc114 : Value} {od114 : Option Addr} {an114 : Option Addr} {sl114 : Array (Option Value)} {kV114 : Value} {dc114 : Value} {pm114 : Value} {cd114 : Value} {ct114 : Value} {f115 : Addr} {oc115 : Value} {od115 : Option Addr} {an115 : Option Addr} {sl115 : Array (Option Value)} {kV115 : Value} {dc115 : Value} {pm115 : Value} {cd115 : Value} {ct115 : Value} {f116 : Addr} {oc116 : Value} {od116 : Option Addr} {an116 : Option Addr} {sl116 : Array (Option Value)} {kV116 : Value} {dc116 : Value} {pm116 : Value} {cd116 : Value} {ct116 : Value} {f117 : Addr} {oc117 : Value} {od117 : Option Addr} {an117 : Option Addr} {sl117 : Array (Option Value)} {kV117 : Value} {dc117 : Value} {pm117 : Value} {cd117 : Value} {ct117 : Value} {f118 : Addr} {oc118 : Value} {od118 : Option Addr} {an118 : Option Addr} {sl118 : Array (Option Value)} {kV118 : Value} {dc118 : Value} {pm118 : Value} {cd118 : Value} {ct118 : Value} {f119 : Addr} {oc119 : Value} {od119 : Option Addr} {an119 : Option Addr} {sl119 : Array (Option Value)} {kV119 : Value} {dc119 : Value} {pm119 : Value} {cd119 : Value} {ct119 : Value} {f120 : Addr} {oc120 : Value} {od120 : Option Addr} {an120 : Option Addr} {sl120 : Array (Option Value)} {kV120 : Value} {dc120 : Value} {pm120 : Value} {cd120 : Value} {ct120 : Value} {f121 : Addr} {oc121 : Value} {od121 : Option Addr} {an121 : Option Addr} {sl121 : Array (Option Value)} {kV121 : Value} {dc121 : Value} {pm121 : Value} {cd121 : Value} {ct121 : Value} {f122 : Addr} {oc122 : Value} {od122 : Option Addr} {an122 : Option Addr} {sl122 : Array (Option Value)} {kV122 : Value} {dc122 : Value} {pm122 : Value} {cd122 : Value} {ct122 : Value} {f123 : Addr} {oc123 : Value} {od123 : Option Addr} {an123 : Option Addr} {sl123 : Array (Option Value)} {kV123 : Value} {dc123 : Value} {pm123 : Value} {cd123 : Value} {ct123 : Value} {f124 : Addr} {oc124 : Value} {od124 : Option Addr} {an124 : Option Addr} {sl124 : Array (Option Value)} {kV124 : Value} {dc124 : Value} {pm124 : Value} {cd124 : Value} {ct124 : Value} {f125 : Addr} {oc125 : Value} {od125 : Option Addr} {an125 : Option Addr} {sl125 : Array (Option Value)} {kV125 : Value} {dc125 : Value} {pm125 : Value} {cd125 : Value} {ct125 : Value} {f126 : Addr} {oc126 : Value} {od126 : Option Addr} {an126 : Option Addr} {sl126 : Array (Option Value)} {kV126 : Value} {dc126 : Value} {pm126 : Value} {cd126 : Value} {ct126 : Value} {f127 : Addr} {oc127 : Value} {od127 : Option Addr} {an127 : Option Addr} {sl127 : Array (Option Value)} {kV127 : Value} {dc127 : Value} {pm127 : Value} {cd127 : Value} {ct127 : Value} {f128 : Addr} {oc128 : Value} {od128 : Option Addr} {an128 : Option Addr} {sl128 : Array (Option Value)} {kV128 : Value} {dc128 : Value} {pm128 : Value} {cd128 : Value} {ct128 : Value} {f129 : Addr} {oc129 : Value} {od129 : Option Addr} {an129 : Option Addr} {sl129 : Array (Option Value)} {kV129 : Value} {dc129 : Value} {pm129 : Value} {cd129 : Value} {ct129 : Value} {f130 : Addr} {oc130 : Value} {od130 : Option Addr} {an130 : Option Addr} {sl130 : Array (Option Value)} {kV130 : Value} {dc130 : Value} {pm130 : Value} {cd130 : Value} {ct130 : Value} {f131 : Addr} {oc131 : Value} {od131 : Option Addr} {an131 : Option Addr} {sl131 : Array (Option Value)} {kV131 : Value} {dc131 : Value} {pm131 : Value} {cd131 : Value} {ct131 : Value} {f132 : Addr} {oc132 : Value} {od132 : Option Addr} {an132 : Option Addr} {sl132 : Array (Option Value)} {kV132 : Value} {dc132 : Value} {pm132 : Value} {cd132 : Value} {ct132 : Value} {f133 : Addr} {oc133 : Value} {od133 : Option Addr} {an133 : Option Addr} {sl133 : Array (Option Value)} {kV133 : Value} {dc133 : Value} {pm133 : Value} {cd133 : Value} {ct133 : Value} {f134 : Addr} {oc134 : Value} {od134 : Option Addr} {an134 : Option Addr} {sl134 : Array (Option Value)} {kV134 : Value} {dc134 : Value} {pm134 : Value} {cd134 : Value} {ct134 : Value} {f135 : Addr} {oc135 : Value} {od135 : Option Addr} {an135 : Option Addr} {sl135 : Array (Option Value)} {kV135 : Value} {dc135 : Value} {pm135 : Value} {cd135 : Value} {ct135 : Value} {f136 : Addr} {oc136 : Value} {od136 : Option Addr} {an136 : Option Addr} {sl136 : Array (Option Value)} {kV136 : Value} {dc136 : Value} {pm136 : Value} {cd136 : Value} {ct136 : Value} {f137 : Addr} {oc137 : Value} {od137 : Option Addr} {an137 : Option Addr} {sl137 : Array (Option Value)} {kV137 : Value} {dc137 : Value} {pm137 : Value} {cd137 : Value} {ct137 : Value} {f138 : Addr} {oc138 : Value} {od138 : Option Addr} {an138 : Option Addr} {sl138 : Array (Option Value)} {kV138 : Value} {dc138 : Value} {pm138 : Value} {cd138 : Value} {ct138 : Value}
    (h1 : PySem.W.nsIn K mainGlobals "isinstance" = some none)
    (h2 : PySem.W.nsIn K mainGlobals "str" = some none)
    (h3 : PySem.W.nsIn K mainGlobals "len" = some none)
    (h4 : PySem.W.nsIn K mainGlobals "all" = some none)
    (h5 : PySem.W.nsIn K mainGlobals "bool" = some none)
    (h6 : PySem.W.nsIn K mainGlobals "int" = some none)
    (h7 : PySem.W.nsIn K mainGlobals "tuple" = some none)
    (h8 : PySem.W.nsIn K mainGlobals "range" = some none)
    (h9 : PySem.W.nsIn K mainGlobals "list" = some none)
    (h10 : PySem.W.nsIn K mainGlobals "max" = some none)
    (h11 : PySem.W.nsIn K mainGlobals "min" = some none)
    (h12 : PySem.W.nsIn K mainGlobals "enumerate" = some none)
    (h13 : PySem.W.nsIn K mainGlobals "zip" = some none)
    (h14 : PySem.W.nsIn K mainGlobals "sorted" = some none)
    (h15 : PySem.W.nsIn K mainGlobals "dict" = some none)
    (h16 : PySem.W.nsIn K mainGlobals "NotImplemented" = some none)
    (h17 : PySem.W.nsIn K mainGlobals "staticmethod" = some none)
    (h18 : PySem.W.nsIn K mainGlobals "abs" = some none)
    (h19 : PySem.W.nsIn K mainGlobals "repr" = some none)
    (h20 : PySem.W.nsIn K mainGlobals "ValueError" = some none)
    (h21 : PySem.W.nsIn K mainGlobals "LETTERS" = some (some (.str "abcdefghijklmnopqrstuvwxyz" t20)))
    (h22 : PySem.W.nsIn K mainGlobals "MOST_LETTERS" = some (some (.int 6 t21)))
    (h23 : PySem.W.nsIn K mainGlobals "World" = some (some (.ref z_World)))
    (h24 : PySem.W.plainGet K z_World Str.empty = true)
    (h25 : PySem.W.hasDictIn K z_World = true)
    (h26 : PySem.W.plainOver K z_World = true)
    (h27 : PySem.W.findIn K (.ref z_World) "__setattr__" = some (some (.builtin "object.__setattr__")))
    (h28 : PySem.W.findIn K (.ref z_World) "__class__" = some (some (.builtin "object.__class__")))
    (h29 : PySem.W.specialIn K (.builtin "object.__class__") "__get__" = some (some (.builtin "getset_descriptor.__get__")))
    (h30 : PySem.W.takesIn K (.builtin "object.__class__") = some true)
    (h31 : PySem.W.mroIn K z_World (.type "object") = some true)
    (h32 : PySem.W.subIn K (.ref z_World) (.type "str") = some false)
    (h33 : PySem.W.subIn K (.ref z_World) (.type "int") = some false)
    (h34 : PySem.W.subIn K (.ref z_World) (.type "bool") = some false)
    (h35 : PySem.W.subIn K (.ref z_World) (.type "list") = some false)
    (h36 : PySem.W.subIn K (.ref z_World) (.type "tuple") = some false)
    (h37 : PySem.W.subIn K (.ref z_World) (.type "dict") = some false)
    (h38 : PySem.W.selfFirst K z_World = true)
    (h39 : PySem.W.findIn K (.ref z_World) "many" = some none)
    (h40 : PySem.W.findIn K (.ref z_World) "_partings" = some none)
    (h41 : PySem.W.readsIn K z_World (.type "type") = true)
    (h42 : PySem.W.specialIn K (.ref z_World) "__getattribute__" = some (some (.builtin "type.__getattribute__")))
    (h43 : PySem.W.findCls K (.ref z_World) (.type "type") "LIMIT" = some (.val (.int 2400 t28)))
    (h44 : PySem.W.findIn K (.ref z_World) "LIMIT" = some (some (.int 2400 t29)))
    (h45 : PySem.W.specialIn K (.int 2400 t29) "__get__" = some none)
    (h46 : PySem.W.makesIn K z_World = true)
    (h47 : PySem.W.keepIn K (.ref z_World) = true)
    (h48 : PySem.W.findIn K (.ref z_World) "__init__" = some (some (.ref f30)))
    (h49 : PySem.W.isFn K (.ref f30) = true)
    (h50 : K.lookup f30 = some ⟨oc30, od30, .func (PySem.W.fnOf "__init__" "World.__init__" (defArgs s_World___init) (defBody s_World___init) (defScope s_World___init) (.ref T30) kV30 dc30 pm30 an30 cd30 ct30), sl30⟩)
    (h51 : PySem.W.codeIn K cd30 "World.__init__" = true)
    (h52 : PySem.W.keepIn K (.ref f30) = true)
    (h53 : K.lookup T30 = some oT30)
    (h54 : (oT30).data = .seq #[.ref dd30] nT30)
    (h55 : PySem.W.makesIn K z_World = true)
    (h56 : PySem.W.keepIn K (.ref z_World) = true)
    (h57 : PySem.W.findIn K (.ref z_World) "__init__" = some (some (.ref f31)))
    (h58 : PySem.W.isFn K (.ref f31) = true)
    (h59 : K.lookup f31 = some ⟨oc31, od31, .func (PySem.W.fnOf "__init__" "World.__init__" (defArgs s_World___init) (defBody s_World___init) (defScope s_World___init) (.ref T31) kV31 dc31 pm31 an31 cd31 ct31), sl31⟩)
    (h60 : PySem.W.codeIn K cd31 "World.__init__" = true)
    (h61 : PySem.W.keepIn K (.ref f31) = true)
    (h62 : K.lookup T31 = some oT31)
    (h63 : (oT31).data = .seq #[.ref dd31] nT31)
    (h64 : K.lookup dd31 = some oE31)
    (h65 : (oE31).cls = .type "tuple")
    (h66 : (oE31).data = .seq #[] nE31)
    (h67 : PySem.W.readsIn K z_World (.type "type") = true)
    (h68 : PySem.W.specialIn K (.ref z_World) "__getattribute__" = some (some (.builtin "type.__getattribute__")))
    (h69 : PySem.W.findCls K (.ref z_World) (.type "type") "parted" = some (.get (.builtin "staticmethod.__get__") (.ref p32) .none (.ref z_World)))
    (h70 : PySem.W.recIn K p32 "staticmethod" = some (.ref f32 :: rs32))
    (h71 : K.lookup f32 = some ⟨oc32, od32, .func (PySem.W.fnOf "parted" "World.parted" (defArgs s_World_parted) (defBody s_World_parted) (defScope s_World_parted) .none kV32 dc32 pm32 an32 cd32 ct32), sl32⟩)
    (h72 : PySem.W.codeIn K cd32 "World.parted" = true)
    (h73 : PySem.W.keepIn K (.ref f32) = true)
    (h74 : PySem.W.readsIn K z_World (.type "type") = true)
    (h75 : PySem.W.specialIn K (.ref z_World) "__getattribute__" = some (some (.builtin "type.__getattribute__")))
    (h76 : PySem.W.findCls K (.ref z_World) (.type "type") "read" = some (.get (.builtin "staticmethod.__get__") (.ref p33) .none (.ref z_World)))
    (h77 : PySem.W.recIn K p33 "staticmethod" = some (.ref f33 :: rs33))
    (h78 : K.lookup f33 = some ⟨oc33, od33, .func (PySem.W.fnOf "read" "World.read" (defArgs s_World_read) (defBody s_World_read) (defScope s_World_read) .none kV33 dc33 pm33 an33 cd33 ct33), sl33⟩)
    (h79 : PySem.W.codeIn K cd33 "World.read" = true)
    (h80 : PySem.W.keepIn K (.ref f33) = true)
    (h81 : PySem.W.findIn K (.ref z_World) "eyes" = some (some (.ref f34)))
    (h82 : PySem.W.isFn K (.ref f34) = true)
    (h83 : K.lookup f34 = some ⟨oc34, od34, .func (PySem.W.fnOf "eyes" "World.eyes" (defArgs s_World_eyes) (defBody s_World_eyes) (defScope s_World_eyes) .none kV34 dc34 pm34 an34 cd34 ct34), sl34⟩)
    (h84 : PySem.W.codeIn K cd34 "World.eyes" = true)
    (h85 : PySem.W.keepIn K (.ref f34) = true)
    (h86 : PySem.W.findIn K (.ref z_World) "partings" = some (some (.ref f35)))
    (h87 : PySem.W.isFn K (.ref f35) = true)
    (h88 : K.lookup f35 = some ⟨oc35, od35, .func (PySem.W.fnOf "partings" "World.partings" (defArgs s_World_partings) (defBody s_World_partings) (defScope s_World_partings) .none kV35 dc35 pm35 an35 cd35 ct35), sl35⟩)
    (h89 : PySem.W.codeIn K cd35 "World.partings" = true)
    (h90 : PySem.W.keepIn K (.ref f35) = true)
    (h91 : PySem.W.findIn K (.ref z_World) "parting_named" = some (some (.ref f36)))
    (h92 : PySem.W.isFn K (.ref f36) = true)
    (h93 : K.lookup f36 = some ⟨oc36, od36, .func (PySem.W.fnOf "parting_named" "World.parting_named" (defArgs s_World_parting_named) (defBody s_World_parting_named) (defScope s_World_parting_named) .none kV36 dc36 pm36 an36 cd36 ct36), sl36⟩)
    (h94 : PySem.W.codeIn K cd36 "World.parting_named" = true)
    (h95 : PySem.W.keepIn K (.ref f36) = true)
    (h96 : PySem.W.findIn K (.ref z_World) "parting" = some (some (.ref f37)))
    (h97 : PySem.W.isFn K (.ref f37) = true)
    (h98 : K.lookup f37 = some ⟨oc37, od37, .func (PySem.W.fnOf "parting" "World.parting" (defArgs s_World_parting) (defBody s_World_parting) (defScope s_World_parting) .none kV37 dc37 pm37 an37 cd37 ct37), sl37⟩)
    (h99 : PySem.W.codeIn K cd37 "World.parting" = true)
    (h100 : PySem.W.keepIn K (.ref f37) = true)
    (h101 : PySem.W.findIn K (.ref z_World) "alike" = some (some (.ref f38)))
    (h102 : PySem.W.isFn K (.ref f38) = true)
    (h103 : K.lookup f38 = some ⟨oc38, od38, .func (PySem.W.fnOf "alike" "World.alike" (defArgs s_World_alike) (defBody s_World_alike) (defScope s_World_alike) .none kV38 dc38 pm38 an38 cd38 ct38), sl38⟩)
    (h104 : PySem.W.codeIn K cd38 "World.alike" = true)
    (h105 : PySem.W.keepIn K (.ref f38) = true)
    (h106 : PySem.W.findIn K (.ref z_World) "tells" = some (some (.ref f39)))
    (h107 : PySem.W.isFn K (.ref f39) = true)
    (h108 : K.lookup f39 = some ⟨oc39, od39, .func (PySem.W.fnOf "tells" "World.tells" (defArgs s_World_tells) (defBody s_World_tells) (defScope s_World_tells) .none kV39 dc39 pm39 an39 cd39 ct39), sl39⟩)
    (h109 : PySem.W.codeIn K cd39 "World.tells" = true)
    (h110 : PySem.W.keepIn K (.ref f39) = true)
    (h111 : PySem.W.findIn K (.ref z_World) "tied" = some (some (.ref f40)))
    (h112 : PySem.W.isFn K (.ref f40) = true)
    (h113 : K.lookup f40 = some ⟨oc40, od40, .func (PySem.W.fnOf "tied" "World.tied" (defArgs s_World_tied) (defBody s_World_tied) (defScope s_World_tied) .none kV40 dc40 pm40 an40 cd40 ct40), sl40⟩)
    (h114 : PySem.W.codeIn K cd40 "World.tied" = true)
    (h115 : PySem.W.keepIn K (.ref f40) = true)
    (h116 : PySem.W.findIn K (.ref z_World) "kept_to" = some (some (.ref f41)))
    (h117 : PySem.W.isFn K (.ref f41) = true)
    (h118 : K.lookup f41 = some ⟨oc41, od41, .func (PySem.W.fnOf "kept_to" "World.kept_to" (defArgs s_World_kept_to) (defBody s_World_kept_to) (defScope s_World_kept_to) .none kV41 dc41 pm41 an41 cd41 ct41), sl41⟩)
    (h119 : PySem.W.codeIn K cd41 "World.kept_to" = true)
    (h120 : PySem.W.keepIn K (.ref f41) = true)
    (h121 : PySem.W.findIn K (.ref z_World) "text" = some (some (.ref f42)))
    (h122 : PySem.W.isFn K (.ref f42) = true)
    (h123 : K.lookup f42 = some ⟨oc42, od42, .func (PySem.W.fnOf "text" "World.text" (defArgs s_World_text) (defBody s_World_text) (defScope s_World_text) .none kV42 dc42 pm42 an42 cd42 ct42), sl42⟩)
    (h124 : PySem.W.codeIn K cd42 "World.text" = true)
    (h125 : PySem.W.keepIn K (.ref f42) = true)
    (h126 : PySem.W.findIn K (.ref z_World) "__add__" = some (some (.ref f43)))
    (h127 : PySem.W.isFn K (.ref f43) = true)
    (h128 : K.lookup f43 = some ⟨oc43, od43, .func (PySem.W.fnOf "__add__" "World.__add__" (defArgs s_World___add) (defBody s_World___add) (defScope s_World___add) .none kV43 dc43 pm43 an43 cd43 ct43), sl43⟩)
    (h129 : PySem.W.codeIn K cd43 "World.__add__" = true)
    (h130 : PySem.W.keepIn K (.ref f43) = true)
    (h131 : PySem.W.findIn K (.ref z_World) "__eq__" = some (some (.ref f44)))
    (h132 : PySem.W.isFn K (.ref f44) = true)
    (h133 : K.lookup f44 = some ⟨oc44, od44, .func (PySem.W.fnOf "__eq__" "World.__eq__" (defArgs s_World___eq) (defBody s_World___eq) (defScope s_World___eq) .none kV44 dc44 pm44 an44 cd44 ct44), sl44⟩)
    (h134 : PySem.W.codeIn K cd44 "World.__eq__" = true)
    (h135 : PySem.W.keepIn K (.ref f44) = true)
    (h136 : PySem.W.findIn K (.ref z_World) "__len__" = some (some (.ref f45)))
    (h137 : PySem.W.isFn K (.ref f45) = true)
    (h138 : K.lookup f45 = some ⟨oc45, od45, .func (PySem.W.fnOf "__len__" "World.__len__" (defArgs s_World___len) (defBody s_World___len) (defScope s_World___len) .none kV45 dc45 pm45 an45 cd45 ct45), sl45⟩)
    (h139 : PySem.W.codeIn K cd45 "World.__len__" = true)
    (h140 : PySem.W.keepIn K (.ref f45) = true)
    (h141 : PySem.W.findIn K (.ref z_World) "__str__" = some (some (.ref f46)))
    (h142 : PySem.W.isFn K (.ref f46) = true)
    (h143 : K.lookup f46 = some ⟨oc46, od46, .func (PySem.W.fnOf "__str__" "World.__str__" (defArgs s_World___str) (defBody s_World___str) (defScope s_World___str) .none kV46 dc46 pm46 an46 cd46 ct46), sl46⟩)
    (h144 : PySem.W.codeIn K cd46 "World.__str__" = true)
    (h145 : PySem.W.keepIn K (.ref f46) = true)
    (h146 : PySem.W.findIn K (.ref z_World) "__repr__" = some (some (.ref f47)))
    (h147 : PySem.W.isFn K (.ref f47) = true)
    (h148 : K.lookup f47 = some ⟨oc47, od47, .func (PySem.W.fnOf "__repr__" "World.__repr__" (defArgs s_World___repr) (defBody s_World___repr) (defScope s_World___repr) .none kV47 dc47 pm47 an47 cd47 ct47), sl47⟩)
    (h149 : PySem.W.codeIn K cd47 "World.__repr__" = true)
    (h150 : PySem.W.keepIn K (.ref f47) = true)
    (h151 : PySem.W.nsIn K mainGlobals "InvalidName" = some (some (.ref z_InvalidName)))
    (h152 : K.lookup z_InvalidName = some (excClassObj nm48 qn48 z_InvalidName nn48 bs48 bm48 true sn48 sb48 ab48 co48 dd48 k048 k148 k248 k348 k548 "ValueError.__new__"))
    (h153 : PySem.HandSPX.refsVE bm48 = true)
    (h154 : PySem.W.findIn K (.ref z_InvalidName) "__setattr__" = some (some (.builtin "object.__setattr__")))
    (h155 : PySem.W.subIn K (.ref z_InvalidName) (.type "BaseException") = some true)
    (h156 : PySem.W.typeIn K (.ref z_InvalidName) = some (.type "type"))
    (h157 : PySem.W.keepIn K (.ref z_InvalidName) = true)
    (h158 : xfB K z_InvalidName = true)
    (h159 : PySem.W.findIn K (.ref z_InvalidName) "__init__" = some (some (.ref f48)))
    (h160 : PySem.W.typeIn K (.ref f48) = some (.type "function"))
    (h161 : K.lookup f48 = some ⟨oc48, od48, .func (PySem.W.fnOf "__init__" "InvalidName.__init__" (defArgs s_InvalidName___init) (defBody s_InvalidName___init) (defScope s_InvalidName___init) .none kV48 dc48 pm48 an48 cd48 ct48), sl48⟩)
    (h162 : PySem.W.codeIn K cd48 "InvalidName.__init__" = true)
    (h163 : PySem.W.keepIn K (.ref f48) = true)
    (h164 : PySem.W.findIn K (.ref z_InvalidName) "value" = some none)
    (h165 : PySem.W.nsIn K mainGlobals "InvalidNumber" = some (some (.ref z_InvalidNumber)))
    (h166 : K.lookup z_InvalidNumber = some (excClassObj nm50 qn50 z_InvalidNumber nn50 bs50 bm50 true sn50 sb50 ab50 co50 dd50 k050 k150 k250 k350 k550 "ValueError.__new__"))
    (h167 : PySem.HandSPX.refsVE bm50 = true)
    (h168 : PySem.W.findIn K (.ref z_InvalidNumber) "__setattr__" = some (some (.builtin "object.__setattr__")))
    (h169 : PySem.W.subIn K (.ref z_InvalidNumber) (.type "BaseException") = some true)
    (h170 : PySem.W.typeIn K (.ref z_InvalidNumber) = some (.type "type"))
    (h171 : PySem.W.keepIn K (.ref z_InvalidNumber) = true)
    (h172 : xfB K z_InvalidNumber = true)
    (h173 : PySem.W.findIn K (.ref z_InvalidNumber) "__init__" = some (some (.ref f50)))
    (h174 : PySem.W.typeIn K (.ref f50) = some (.type "function"))
    (h175 : K.lookup f50 = some ⟨oc50, od50, .func (PySem.W.fnOf "__init__" "InvalidNumber.__init__" (defArgs s_InvalidNumber___init) (defBody s_InvalidNumber___init) (defScope s_InvalidNumber___init) .none kV50 dc50 pm50 an50 cd50 ct50), sl50⟩)
    (h176 : PySem.W.codeIn K cd50 "InvalidNumber.__init__" = true)
    (h177 : PySem.W.keepIn K (.ref f50) = true)
    (h178 : PySem.W.findIn K (.ref z_InvalidNumber) "value" = some none)
    (h179 : PySem.W.nsIn K mainGlobals "InvalidText" = some (some (.ref z_InvalidText)))
    (h180 : K.lookup z_InvalidText = some (excClassObj nm52 qn52 z_InvalidText nn52 bs52 bm52 true sn52 sb52 ab52 co52 dd52 k052 k152 k252 k352 k552 "ValueError.__new__"))
    (h181 : PySem.HandSPX.refsVE bm52 = true)
    (h182 : PySem.W.findIn K (.ref z_InvalidText) "__setattr__" = some (some (.builtin "object.__setattr__")))
    (h183 : PySem.W.subIn K (.ref z_InvalidText) (.type "BaseException") = some true)
    (h184 : PySem.W.typeIn K (.ref z_InvalidText) = some (.type "type"))
    (h185 : PySem.W.keepIn K (.ref z_InvalidText) = true)
    (h186 : xfB K z_InvalidText = true)
    (h187 : PySem.W.findIn K (.ref z_InvalidText) "__init__" = some (some (.ref f52)))
    (h188 : PySem.W.typeIn K (.ref f52) = some (.type "function"))
    (h189 : K.lookup f52 = some ⟨oc52, od52, .func (PySem.W.fnOf "__init__" "InvalidText.__init__" (defArgs s_InvalidText___init) (defBody s_InvalidText___init) (defScope s_InvalidText___init) .none kV52 dc52 pm52 an52 cd52 ct52), sl52⟩)
    (h190 : PySem.W.codeIn K cd52 "InvalidText.__init__" = true)
    (h191 : PySem.W.keepIn K (.ref f52) = true)
    (h192 : PySem.W.findIn K (.ref z_InvalidText) "at" = some none)
    (h193 : PySem.W.nsIn K mainGlobals "InvalidTie" = some (some (.ref z_InvalidTie)))
    (h194 : K.lookup z_InvalidTie = some (excClassObj nm54 qn54 z_InvalidTie nn54 bs54 bm54 true sn54 sb54 ab54 co54 dd54 k054 k154 k254 k354 k554 "ValueError.__new__"))
    (h195 : PySem.HandSPX.refsVE bm54 = true)
    (h196 : PySem.W.findIn K (.ref z_InvalidTie) "__setattr__" = some (some (.builtin "object.__setattr__")))
    (h197 : PySem.W.subIn K (.ref z_InvalidTie) (.type "BaseException") = some true)
    (h198 : PySem.W.typeIn K (.ref z_InvalidTie) = some (.type "type"))
    (h199 : PySem.W.keepIn K (.ref z_InvalidTie) = true)
    (h200 : xfB K z_InvalidTie = true)
    (h201 : PySem.W.findIn K (.ref z_InvalidTie) "__init__" = some (some (.ref f54)))
    (h202 : PySem.W.typeIn K (.ref f54) = some (.type "function"))
    (h203 : K.lookup f54 = some ⟨oc54, od54, .func (PySem.W.fnOf "__init__" "InvalidTie.__init__" (defArgs s_InvalidTie___init) (defBody s_InvalidTie___init) (defScope s_InvalidTie___init) .none kV54 dc54 pm54 an54 cd54 ct54), sl54⟩)
    (h204 : PySem.W.codeIn K cd54 "InvalidTie.__init__" = true)
    (h205 : PySem.W.keepIn K (.ref f54) = true)
    (h206 : PySem.W.findIn K (.ref z_InvalidTie) "at" = some none)
    (h207 : PySem.W.nsIn K mainGlobals "InvalidParting" = some (some (.ref z_InvalidParting)))
    (h208 : K.lookup z_InvalidParting = some (excClassObj nm56 qn56 z_InvalidParting nn56 bs56 bm56 true sn56 sb56 ab56 co56 dd56 k056 k156 k256 k356 k556 "ValueError.__new__"))
    (h209 : PySem.HandSPX.refsVE bm56 = true)
    (h210 : PySem.W.findIn K (.ref z_InvalidParting) "__setattr__" = some (some (.builtin "object.__setattr__")))
    (h211 : PySem.W.subIn K (.ref z_InvalidParting) (.type "BaseException") = some true)
    (h212 : PySem.W.typeIn K (.ref z_InvalidParting) = some (.type "type"))
    (h213 : PySem.W.keepIn K (.ref z_InvalidParting) = true)
    (h214 : xfB K z_InvalidParting = true)
    (h215 : PySem.W.findIn K (.ref z_InvalidParting) "__init__" = some (some (.ref f56)))
    (h216 : PySem.W.typeIn K (.ref f56) = some (.type "function"))
    (h217 : K.lookup f56 = some ⟨oc56, od56, .func (PySem.W.fnOf "__init__" "InvalidParting.__init__" (defArgs s_InvalidParting___init) (defBody s_InvalidParting___init) (defScope s_InvalidParting___init) .none kV56 dc56 pm56 an56 cd56 ct56), sl56⟩)
    (h218 : PySem.W.codeIn K cd56 "InvalidParting.__init__" = true)
    (h219 : PySem.W.keepIn K (.ref f56) = true)
    (h220 : PySem.W.findIn K (.ref z_InvalidParting) "value" = some none)
    (h221 : PySem.W.nsIn K mainGlobals "InvalidCase" = some (some (.ref z_InvalidCase)))
    (h222 : K.lookup z_InvalidCase = some (excClassObj nm58 qn58 z_InvalidCase nn58 bs58 bm58 true sn58 sb58 ab58 co58 dd58 k058 k158 k258 k358 k558 "ValueError.__new__"))
    (h223 : PySem.HandSPX.refsVE bm58 = true)
    (h224 : PySem.W.findIn K (.ref z_InvalidCase) "__setattr__" = some (some (.builtin "object.__setattr__")))
    (h225 : PySem.W.subIn K (.ref z_InvalidCase) (.type "BaseException") = some true)
    (h226 : PySem.W.typeIn K (.ref z_InvalidCase) = some (.type "type"))
    (h227 : PySem.W.keepIn K (.ref z_InvalidCase) = true)
    (h228 : xfB K z_InvalidCase = true)
    (h229 : PySem.W.findIn K (.ref z_InvalidCase) "__init__" = some (some (.ref f58)))
    (h230 : PySem.W.typeIn K (.ref f58) = some (.type "function"))
    (h231 : K.lookup f58 = some ⟨oc58, od58, .func (PySem.W.fnOf "__init__" "InvalidCase.__init__" (defArgs s_InvalidCase___init) (defBody s_InvalidCase___init) (defScope s_InvalidCase___init) .none kV58 dc58 pm58 an58 cd58 ct58), sl58⟩)
    (h232 : PySem.W.codeIn K cd58 "InvalidCase.__init__" = true)
    (h233 : PySem.W.keepIn K (.ref f58) = true)
    (h234 : PySem.W.findIn K (.ref z_InvalidCase) "value" = some none)
    (h235 : PySem.W.nsIn K mainGlobals "TooMany" = some (some (.ref z_TooMany)))
    (h236 : K.lookup z_TooMany = some (excClassObj nm60 qn60 z_TooMany nn60 bs60 bm60 true sn60 sb60 ab60 co60 dd60 k060 k160 k260 k360 k560 "ValueError.__new__"))
    (h237 : PySem.HandSPX.refsVE bm60 = true)
    (h238 : PySem.W.findIn K (.ref z_TooMany) "__setattr__" = some (some (.builtin "object.__setattr__")))
    (h239 : PySem.W.subIn K (.ref z_TooMany) (.type "BaseException") = some true)
    (h240 : PySem.W.typeIn K (.ref z_TooMany) = some (.type "type"))
    (h241 : PySem.W.keepIn K (.ref z_TooMany) = true)
    (h242 : xfB K z_TooMany = true)
    (h243 : PySem.W.findIn K (.ref z_TooMany) "__init__" = some (some (.ref f60)))
    (h244 : PySem.W.typeIn K (.ref f60) = some (.type "function"))
    (h245 : K.lookup f60 = some ⟨oc60, od60, .func (PySem.W.fnOf "__init__" "TooMany.__init__" (defArgs s_TooMany___init) (defBody s_TooMany___init) (defScope s_TooMany___init) .none kV60 dc60 pm60 an60 cd60 ct60), sl60⟩)
    (h246 : PySem.W.codeIn K cd60 "TooMany.__init__" = true)
    (h247 : PySem.W.keepIn K (.ref f60) = true)
    (h248 : PySem.W.findIn K (.ref z_TooMany) "what" = some none)
    (h249 : PySem.W.findIn K (.ref z_TooMany) "most" = some none)
    (h250 : PySem.W.exmOne K (.ref z_InvalidName) (.ref z_InvalidName) = some true)
    (h251 : PySem.W.exmOne K (.ref z_InvalidNumber) (.ref z_InvalidName) = some false)
    (h252 : PySem.W.exmOne K (.ref z_InvalidNumber) (.ref z_InvalidNumber) = some true)
    (h253 : PySem.W.exmOne K (.ref z_InvalidTie) (.ref z_InvalidName) = some false)
    (h254 : PySem.W.exmOne K (.ref z_InvalidTie) (.ref z_InvalidNumber) = some false)
    (h255 : PySem.W.exmOne K (.ref z_InvalidTie) (.ref z_InvalidText) = some false)
    (h256 : PySem.W.exmOne K (.ref z_InvalidTie) (.ref z_InvalidTie) = some true)
    (h257 : PySem.W.exmOne K (.ref z_InvalidParting) (.ref z_InvalidName) = some false)
    (h258 : PySem.W.exmOne K (.ref z_InvalidParting) (.ref z_InvalidNumber) = some false)
    (h259 : PySem.W.exmOne K (.ref z_InvalidParting) (.ref z_InvalidText) = some false)
    (h260 : PySem.W.exmOne K (.ref z_InvalidParting) (.ref z_InvalidTie) = some false)
    (h261 : PySem.W.exmOne K (.ref z_InvalidParting) (.ref z_InvalidParting) = some true)
    (h262 : PySem.W.exmOne K (.ref z_TooMany) (.ref z_InvalidName) = some false)
    (h263 : PySem.W.exmOne K (.ref z_TooMany) (.ref z_InvalidNumber) = some false)
    (h264 : PySem.W.exmOne K (.ref z_TooMany) (.ref z_InvalidText) = some false)
    (h265 : PySem.W.exmOne K (.ref z_TooMany) (.ref z_InvalidTie) = some false)
    (h266 : PySem.W.exmOne K (.ref z_TooMany) (.ref z_InvalidParting) = some false)
    (h267 : PySem.W.exmOne K (.ref z_TooMany) (.ref z_InvalidCase) = some false)
    (h268 : PySem.W.exmOne K (.ref z_TooMany) (.ref z_TooMany) = some true)
    (h269 : PySem.W.exmOne K (.ref z_InvalidText) (.ref z_InvalidName) = some false)
    (h270 : PySem.W.exmOne K (.ref z_InvalidText) (.ref z_InvalidNumber) = some false)
    (h271 : PySem.W.exmOne K (.ref z_InvalidText) (.ref z_InvalidText) = some true)
    (h272 : PySem.W.exmOne K (.ref z_InvalidText) (.ref z_TooMany) = some false)
    (h273 : PySem.W.exmOne K (.ref z_InvalidCase) (.ref z_InvalidName) = some false)
    (h274 : PySem.W.exmOne K (.ref z_InvalidCase) (.ref z_InvalidNumber) = some false)
    (h275 : PySem.W.exmOne K (.ref z_InvalidCase) (.ref z_InvalidText) = some false)
    (h276 : PySem.W.exmOne K (.ref z_InvalidCase) (.ref z_InvalidTie) = some false)
    (h277 : PySem.W.exmOne K (.ref z_InvalidCase) (.ref z_InvalidParting) = some false)
    (h278 : PySem.W.exmOne K (.ref z_InvalidCase) (.ref z_InvalidCase) = some true)
    (h279 : PySem.W.kitOne K (.type "int") (.ref z_World) = some false)
    (h280 : PySem.W.kitOne K (.type "list") (.ref z_World) = some false)
    (h281 : PySem.W.kitOne K (.type "str") (.ref z_World) = some false)
    (h282 : PySem.W.notFirst K z_World (.type "int") = true)
    (h283 : PySem.W.notFirst K z_World (.type "list") = true)
    (h284 : PySem.W.notFirst K z_World (.type "str") = true)
    (h285 : PySem.W.nsIn K mainGlobals "_wall" = some (some (.ref f98)))
    (h286 : K.lookup f98 = some ⟨oc98, od98, .func (PySem.W.fnOf "_wall" "_wall" (defArgs s_wall) (defBody s_wall) (defScope s_wall) .none kV98 dc98 pm98 an98 cd98 ct98), sl98⟩)
    (h287 : PySem.W.codeIn K cd98 "_wall" = true)
    (h288 : PySem.W.keepIn K (.ref f98) = true)
    (h289 : PySem.W.nsIn K mainGlobals "is_name" = some (some (.ref f99)))
    (h290 : K.lookup f99 = some ⟨oc99, od99, .func (PySem.W.fnOf "is_name" "is_name" (defArgs s_is_name) (defBody s_is_name) (defScope s_is_name) .none kV99 dc99 pm99 an99 cd99 ct99), sl99⟩)
    (h291 : PySem.W.codeIn K cd99 "is_name" = true)
    (h292 : PySem.W.keepIn K (.ref f99) = true)
    (h293 : PySem.W.nsIn K mainGlobals "is_number" = some (some (.ref f100)))
    (h294 : K.lookup f100 = some ⟨oc100, od100, .func (PySem.W.fnOf "is_number" "is_number" (defArgs s_is_number) (defBody s_is_number) (defScope s_is_number) .none kV100 dc100 pm100 an100 cd100 ct100), sl100⟩)
    (h295 : PySem.W.codeIn K cd100 "is_number" = true)
    (h296 : PySem.W.keepIn K (.ref f100) = true)
    (h297 : PySem.W.nsIn K mainGlobals "is_parting" = some (some (.ref f101)))
    (h298 : K.lookup f101 = some ⟨oc101, od101, .func (PySem.W.fnOf "is_parting" "is_parting" (defArgs s_is_parting) (defBody s_is_parting) (defScope s_is_parting) .none kV101 dc101 pm101 an101 cd101 ct101), sl101⟩)
    (h299 : PySem.W.codeIn K cd101 "is_parting" = true)
    (h300 : PySem.W.keepIn K (.ref f101) = true)
    (h301 : PySem.W.nsIn K mainGlobals "is_item" = some (some (.ref f102)))
    (h302 : K.lookup f102 = some ⟨oc102, od102, .func (PySem.W.fnOf "is_item" "is_item" (defArgs s_is_item) (defBody s_is_item) (defScope s_is_item) .none kV102 dc102 pm102 an102 cd102 ct102), sl102⟩)
    (h303 : PySem.W.codeIn K cd102 "is_item" = true)
    (h304 : PySem.W.keepIn K (.ref f102) = true)
    (h305 : PySem.W.nsIn K mainGlobals "apart" = some (some (.ref f103)))
    (h306 : K.lookup f103 = some ⟨oc103, od103, .func (PySem.W.fnOf "apart" "apart" (defArgs s_apart) (defBody s_apart) (defScope s_apart) .none kV103 dc103 pm103 an103 cd103 ct103), sl103⟩)
    (h307 : PySem.W.codeIn K cd103 "apart" = true)
    (h308 : PySem.W.keepIn K (.ref f103) = true)
    (h309 : PySem.W.nsIn K mainGlobals "linked" = some (some (.ref f104)))
    (h310 : K.lookup f104 = some ⟨oc104, od104, .func (PySem.W.fnOf "linked" "linked" (defArgs s_linked) (defBody s_linked) (defScope s_linked) .none kV104 dc104 pm104 an104 cd104 ct104), sl104⟩)
    (h311 : PySem.W.codeIn K cd104 "linked" = true)
    (h312 : PySem.W.keepIn K (.ref f104) = true)
    (h313 : PySem.W.nsIn K mainGlobals "by_keys" = some (some (.ref f105)))
    (h314 : K.lookup f105 = some ⟨oc105, od105, .func (PySem.W.fnOf "by_keys" "by_keys" (defArgs s_by_keys) (defBody s_by_keys) (defScope s_by_keys) .none kV105 dc105 pm105 an105 cd105 ct105), sl105⟩)
    (h315 : PySem.W.codeIn K cd105 "by_keys" = true)
    (h316 : PySem.W.keepIn K (.ref f105) = true)
    (h317 : PySem.W.nsIn K mainGlobals "met" = some (some (.ref f106)))
    (h318 : K.lookup f106 = some ⟨oc106, od106, .func (PySem.W.fnOf "met" "met" (defArgs s_met) (defBody s_met) (defScope s_met) .none kV106 dc106 pm106 an106 cd106 ct106), sl106⟩)
    (h319 : PySem.W.codeIn K cd106 "met" = true)
    (h320 : PySem.W.keepIn K (.ref f106) = true)
    (h321 : PySem.W.nsIn K mainGlobals "joined" = some (some (.ref f107)))
    (h322 : K.lookup f107 = some ⟨oc107, od107, .func (PySem.W.fnOf "joined" "joined" (defArgs s_joined) (defBody s_joined) (defScope s_joined) .none kV107 dc107 pm107 an107 cd107 ct107), sl107⟩)
    (h323 : PySem.W.codeIn K cd107 "joined" = true)
    (h324 : PySem.W.keepIn K (.ref f107) = true)
    (h325 : PySem.W.nsIn K mainGlobals "within" = some (some (.ref f108)))
    (h326 : K.lookup f108 = some ⟨oc108, od108, .func (PySem.W.fnOf "within" "within" (defArgs s_within) (defBody s_within) (defScope s_within) .none kV108 dc108 pm108 an108 cd108 ct108), sl108⟩)
    (h327 : PySem.W.codeIn K cd108 "within" = true)
    (h328 : PySem.W.keepIn K (.ref f108) = true)
    (h329 : PySem.W.nsIn K mainGlobals "beside" = some (some (.ref f109)))
    (h330 : K.lookup f109 = some ⟨oc109, od109, .func (PySem.W.fnOf "beside" "beside" (defArgs s_beside) (defBody s_beside) (defScope s_beside) .none kV109 dc109 pm109 an109 cd109 ct109), sl109⟩)
    (h331 : PySem.W.codeIn K cd109 "beside" = true)
    (h332 : PySem.W.keepIn K (.ref f109) = true)
    (h333 : PySem.W.nsIn K mainGlobals "check_names" = some (some (.ref f110)))
    (h334 : K.lookup f110 = some ⟨oc110, od110, .func (PySem.W.fnOf "check_names" "check_names" (defArgs s_check_names) (defBody s_check_names) (defScope s_check_names) .none kV110 dc110 pm110 an110 cd110 ct110), sl110⟩)
    (h335 : PySem.W.codeIn K cd110 "check_names" = true)
    (h336 : PySem.W.keepIn K (.ref f110) = true)
    (h337 : PySem.W.nsIn K mainGlobals "check_cases" = some (some (.ref f111)))
    (h338 : K.lookup f111 = some ⟨oc111, od111, .func (PySem.W.fnOf "check_cases" "check_cases" (defArgs s_check_cases) (defBody s_check_cases) (defScope s_check_cases) .none kV111 dc111 pm111 an111 cd111 ct111), sl111⟩)
    (h339 : PySem.W.codeIn K cd111 "check_cases" = true)
    (h340 : PySem.W.keepIn K (.ref f111) = true)
    (h341 : PySem.W.nsIn K mainGlobals "check_many" = some (some (.ref f112)))
    (h342 : K.lookup f112 = some ⟨oc112, od112, .func (PySem.W.fnOf "check_many" "check_many" (defArgs s_check_many) (defBody s_check_many) (defScope s_check_many) .none kV112 dc112 pm112 an112 cd112 ct112), sl112⟩)
    (h343 : PySem.W.codeIn K cd112 "check_many" = true)
    (h344 : PySem.W.keepIn K (.ref f112) = true)
    (h345 : PySem.W.nsIn K mainGlobals "check_ties" = some (some (.ref f113)))
    (h346 : K.lookup f113 = some ⟨oc113, od113, .func (PySem.W.fnOf "check_ties" "check_ties" (defArgs s_check_ties) (defBody s_check_ties) (defScope s_check_ties) .none kV113 dc113 pm113 an113 cd113 ct113), sl113⟩)
    (h347 : PySem.W.codeIn K cd113 "check_ties" = true)
    (h348 : PySem.W.keepIn K (.ref f113) = true)
    (h349 : PySem.W.nsIn K mainGlobals "is_tie" = some (some (.ref f114)))
    (h350 : K.lookup f114 = some ⟨oc114, od114, .func (PySem.W.fnOf "is_tie" "is_tie" (defArgs s_is_tie) (defBody s_is_tie) (defScope s_is_tie) .none kV114 dc114 pm114 an114 cd114 ct114), sl114⟩)
    (h351 : PySem.W.codeIn K cd114 "is_tie" = true)
    (h352 : PySem.W.keepIn K (.ref f114) = true)
    (h353 : PySem.W.nsIn K mainGlobals "is_parting_to" = some (some (.ref f115)))
    (h354 : K.lookup f115 = some ⟨oc115, od115, .func (PySem.W.fnOf "is_parting_to" "is_parting_to" (defArgs s_is_parting_to) (defBody s_is_parting_to) (defScope s_is_parting_to) .none kV115 dc115 pm115 an115 cd115 ct115), sl115⟩)
    (h355 : PySem.W.codeIn K cd115 "is_parting_to" = true)
    (h356 : PySem.W.keepIn K (.ref f115) = true)
    (h357 : PySem.W.nsIn K mainGlobals "tied_partings" = some (some (.ref f116)))
    (h358 : K.lookup f116 = some ⟨oc116, od116, .func (PySem.W.fnOf "tied_partings" "tied_partings" (defArgs s_tied_partings) (defBody s_tied_partings) (defScope s_tied_partings) .none kV116 dc116 pm116 an116 cd116 ct116), sl116⟩)
    (h359 : PySem.W.codeIn K cd116 "tied_partings" = true)
    (h360 : PySem.W.keepIn K (.ref f116) = true)
    (h361 : PySem.W.nsIn K mainGlobals "counting" = some (some (.ref f117)))
    (h362 : K.lookup f117 = some ⟨oc117, od117, .func (PySem.W.fnOf "counting" "counting" (defArgs s_counting) (defBody s_counting) (defScope s_counting) .none kV117 dc117 pm117 an117 cd117 ct117), sl117⟩)
    (h363 : PySem.W.codeIn K cd117 "counting" = true)
    (h364 : PySem.W.keepIn K (.ref f117) = true)
    (h365 : PySem.W.nsIn K mainGlobals "read_many" = some (some (.ref f118)))
    (h366 : K.lookup f118 = some ⟨oc118, od118, .func (PySem.W.fnOf "read_many" "read_many" (defArgs s_read_many) (defBody s_read_many) (defScope s_read_many) .none kV118 dc118 pm118 an118 cd118 ct118), sl118⟩)
    (h367 : PySem.W.codeIn K cd118 "read_many" = true)
    (h368 : PySem.W.keepIn K (.ref f118) = true)
    (h369 : PySem.W.nsIn K mainGlobals "read_parting" = some (some (.ref f119)))
    (h370 : K.lookup f119 = some ⟨oc119, od119, .func (PySem.W.fnOf "read_parting" "read_parting" (defArgs s_read_parting) (defBody s_read_parting) (defScope s_read_parting) .none kV119 dc119 pm119 an119 cd119 ct119), sl119⟩)
    (h371 : PySem.W.codeIn K cd119 "read_parting" = true)
    (h372 : PySem.W.keepIn K (.ref f119) = true)
    (h373 : PySem.W.nsIn K mainGlobals "world_with" = some (some (.ref f120)))
    (h374 : K.lookup f120 = some ⟨oc120, od120, .func (PySem.W.fnOf "world_with" "world_with" (defArgs s_world_with) (defBody s_world_with) (defScope s_world_with) .none kV120 dc120 pm120 an120 cd120 ct120), sl120⟩)
    (h375 : PySem.W.codeIn K cd120 "world_with" = true)
    (h376 : PySem.W.keepIn K (.ref f120) = true)
    (h377 : PySem.W.nsIn K mainGlobals "_law_bag" = some (some (.ref f121)))
    (h378 : K.lookup f121 = some ⟨oc121, od121, .func (PySem.W.fnOf "_law_bag" "_law_bag" (defArgs s_law_bag) (defBody s_law_bag) (defScope s_law_bag) .none kV121 dc121 pm121 an121 cd121 ct121), sl121⟩)
    (h379 : PySem.W.codeIn K cd121 "_law_bag" = true)
    (h380 : PySem.W.keepIn K (.ref f121) = true)
    (h381 : PySem.W.nsIn K mainGlobals "_law_draw" = some (some (.ref f122)))
    (h382 : K.lookup f122 = some ⟨oc122, od122, .func (PySem.W.fnOf "_law_draw" "_law_draw" (defArgs s_law_draw) (defBody s_law_draw) (defScope s_law_draw) .none kV122 dc122 pm122 an122 cd122 ct122), sl122⟩)
    (h383 : PySem.W.codeIn K cd122 "_law_draw" = true)
    (h384 : PySem.W.keepIn K (.ref f122) = true)
    (h385 : PySem.W.nsIn K mainGlobals "_law_of" = some (some (.ref f123)))
    (h386 : K.lookup f123 = some ⟨oc123, od123, .func (PySem.W.fnOf "_law_of" "_law_of" (defArgs s_law_of) (defBody s_law_of) (defScope s_law_of) .none kV123 dc123 pm123 an123 cd123 ct123), sl123⟩)
    (h387 : PySem.W.codeIn K cd123 "_law_of" = true)
    (h388 : PySem.W.keepIn K (.ref f123) = true)
    (h389 : PySem.W.nsIn K mainGlobals "_law_mixed" = some (some (.ref f124)))
    (h390 : K.lookup f124 = some ⟨oc124, od124, .func (PySem.W.fnOf "_law_mixed" "_law_mixed" (defArgs s_law_mixed) (defBody s_law_mixed) (defScope s_law_mixed) .none kV124 dc124 pm124 an124 cd124 ct124), sl124⟩)
    (h391 : PySem.W.codeIn K cd124 "_law_mixed" = true)
    (h392 : PySem.W.keepIn K (.ref f124) = true)
    (h393 : PySem.W.nsIn K mainGlobals "_law_same" = some (some (.ref f125)))
    (h394 : K.lookup f125 = some ⟨oc125, od125, .func (PySem.W.fnOf "_law_same" "_law_same" (defArgs s_law_same) (defBody s_law_same) (defScope s_law_same) .none kV125 dc125 pm125 an125 cd125 ct125), sl125⟩)
    (h395 : PySem.W.codeIn K cd125 "_law_same" = true)
    (h396 : PySem.W.keepIn K (.ref f125) = true)
    (h397 : PySem.W.nsIn K mainGlobals "_law_title" = some (some (.ref f126)))
    (h398 : K.lookup f126 = some ⟨oc126, od126, .func (PySem.W.fnOf "_law_title" "_law_title" (defArgs s_law_title) (defBody s_law_title) (defScope s_law_title) .none kV126 dc126 pm126 an126 cd126 ct126), sl126⟩)
    (h399 : PySem.W.codeIn K cd126 "_law_title" = true)
    (h400 : PySem.W.keepIn K (.ref f126) = true)
    (h401 : PySem.W.nsIn K mainGlobals "_law_titles" = some (some (.ref f127)))
    (h402 : K.lookup f127 = some ⟨oc127, od127, .func (PySem.W.fnOf "_law_titles" "_law_titles" (defArgs s_law_titles) (defBody s_law_titles) (defScope s_law_titles) .none kV127 dc127 pm127 an127 cd127 ct127), sl127⟩)
    (h403 : PySem.W.codeIn K cd127 "_law_titles" = true)
    (h404 : PySem.W.keepIn K (.ref f127) = true)
    (h405 : PySem.W.nsIn K mainGlobals "_law_alone" = some (some (.ref f128)))
    (h406 : K.lookup f128 = some ⟨oc128, od128, .func (PySem.W.fnOf "_law_alone" "_law_alone" (defArgs s_law_alone) (defBody s_law_alone) (defScope s_law_alone) .none kV128 dc128 pm128 an128 cd128 ct128), sl128⟩)
    (h407 : PySem.W.codeIn K cd128 "_law_alone" = true)
    (h408 : PySem.W.keepIn K (.ref f128) = true)
    (h409 : PySem.W.nsIn K mainGlobals "_law_merged" = some (some (.ref f129)))
    (h410 : K.lookup f129 = some ⟨oc129, od129, .func (PySem.W.fnOf "_law_merged" "_law_merged" (defArgs s_law_merged) (defBody s_law_merged) (defScope s_law_merged) .none kV129 dc129 pm129 an129 cd129 ct129), sl129⟩)
    (h411 : PySem.W.codeIn K cd129 "_law_merged" = true)
    (h412 : PySem.W.keepIn K (.ref f129) = true)
    (h413 : PySem.W.nsIn K mainGlobals "_law_views" = some (some (.ref f130)))
    (h414 : K.lookup f130 = some ⟨oc130, od130, .func (PySem.W.fnOf "_law_views" "_law_views" (defArgs s_law_views) (defBody s_law_views) (defScope s_law_views) .none kV130 dc130 pm130 an130 cd130 ct130), sl130⟩)
    (h415 : PySem.W.codeIn K cd130 "_law_views" = true)
    (h416 : PySem.W.keepIn K (.ref f130) = true)
    (h417 : PySem.W.nsIn K mainGlobals "_law_seen" = some (some (.ref f131)))
    (h418 : K.lookup f131 = some ⟨oc131, od131, .func (PySem.W.fnOf "_law_seen" "_law_seen" (defArgs s_law_seen) (defBody s_law_seen) (defScope s_law_seen) .none kV131 dc131 pm131 an131 cd131 ct131), sl131⟩)
    (h419 : PySem.W.codeIn K cd131 "_law_seen" = true)
    (h420 : PySem.W.keepIn K (.ref f131) = true)
    (h421 : PySem.W.nsIn K mainGlobals "_law_knots" = some (some (.ref f132)))
    (h422 : K.lookup f132 = some ⟨oc132, od132, .func (PySem.W.fnOf "_law_knots" "_law_knots" (defArgs s_law_knots) (defBody s_law_knots) (defScope s_law_knots) .none kV132 dc132 pm132 an132 cd132 ct132), sl132⟩)
    (h423 : PySem.W.codeIn K cd132 "_law_knots" = true)
    (h424 : PySem.W.keepIn K (.ref f132) = true)
    (h425 : PySem.W.nsIn K mainGlobals "_law_chapter" = some (some (.ref f133)))
    (h426 : K.lookup f133 = some ⟨oc133, od133, .func (PySem.W.fnOf "_law_chapter" "_law_chapter" (defArgs s_law_chapter) (defBody s_law_chapter) (defScope s_law_chapter) .none kV133 dc133 pm133 an133 cd133 ct133), sl133⟩)
    (h427 : PySem.W.codeIn K cd133 "_law_chapter" = true)
    (h428 : PySem.W.keepIn K (.ref f133) = true)
    (h429 : PySem.W.nsIn K mainGlobals "_law_world_so" = some (some (.ref f134)))
    (h430 : K.lookup f134 = some ⟨oc134, od134, .func (PySem.W.fnOf "_law_world_so" "_law_world_so" (defArgs s_law_world_so) (defBody s_law_world_so) (defScope s_law_world_so) .none kV134 dc134 pm134 an134 cd134 ct134), sl134⟩)
    (h431 : PySem.W.codeIn K cd134 "_law_world_so" = true)
    (h432 : PySem.W.keepIn K (.ref f134) = true)
    (h433 : PySem.W.nsIn K mainGlobals "_law_ways_so" = some (some (.ref f135)))
    (h434 : K.lookup f135 = some ⟨oc135, od135, .func (PySem.W.fnOf "_law_ways_so" "_law_ways_so" (defArgs s_law_ways_so) (defBody s_law_ways_so) (defScope s_law_ways_so) .none kV135 dc135 pm135 an135 cd135 ct135), sl135⟩)
    (h435 : PySem.W.codeIn K cd135 "_law_ways_so" = true)
    (h436 : PySem.W.keepIn K (.ref f135) = true)
    (h437 : PySem.W.nsIn K mainGlobals "_law_unlike_so" = some (some (.ref f136)))
    (h438 : K.lookup f136 = some ⟨oc136, od136, .func (PySem.W.fnOf "_law_unlike_so" "_law_unlike_so" (defArgs s_law_unlike_so) (defBody s_law_unlike_so) (defScope s_law_unlike_so) .none kV136 dc136 pm136 an136 cd136 ct136), sl136⟩)
    (h439 : PySem.W.codeIn K cd136 "_law_unlike_so" = true)
    (h440 : PySem.W.keepIn K (.ref f136) = true)
    (h441 : PySem.W.nsIn K mainGlobals "_law_copies_so" = some (some (.ref f137)))
    (h442 : K.lookup f137 = some ⟨oc137, od137, .func (PySem.W.fnOf "_law_copies_so" "_law_copies_so" (defArgs s_law_copies_so) (defBody s_law_copies_so) (defScope s_law_copies_so) .none kV137 dc137 pm137 an137 cd137 ct137), sl137⟩)
    (h443 : PySem.W.codeIn K cd137 "_law_copies_so" = true)
    (h444 : PySem.W.keepIn K (.ref f137) = true)
    (h445 : PySem.W.nsIn K mainGlobals "law" = some (some (.ref f138)))
    (h446 : K.lookup f138 = some ⟨oc138, od138, .func (PySem.W.fnOf "law" "law" (defArgs s_law) (defBody s_law) (defScope s_law) .none kV138 dc138 pm138 an138 cd138 ct138), sl138⟩)
    (h447 : PySem.W.codeIn K cd138 "law" = true)
    (h448 : PySem.W.keepIn K (.ref f138) = true) :
    ∃ A : Adr, Txt K mg A := ⟨⟨0, z_World, z_InvalidName, z_InvalidNumber, z_InvalidText, z_InvalidTie, z_InvalidParting, z_InvalidCase, z_TooMany⟩, {n_isinstance := PySem.W.mg_none_of X G h1, n_str := PySem.W.mg_none_of X G h2, n_len := PySem.W.mg_none_of X G h3, n_all := PySem.W.mg_none_of X G h4, n_bool := PySem.W.mg_none_of X G h5, n_int := PySem.W.mg_none_of X G h6, n_tuple := PySem.W.mg_none_of X G h7, n_range := PySem.W.mg_none_of X G h8, n_list := PySem.W.mg_none_of X G h9, n_max := PySem.W.mg_none_of X G h10, n_min := PySem.W.mg_none_of X G h11, n_enumerate := PySem.W.mg_none_of X G h12, n_zip := PySem.W.mg_none_of X G h13, n_sorted := PySem.W.mg_none_of X G h14, n_dict := PySem.W.mg_none_of X G h15, n_NotImplemented := PySem.W.mg_none_of X G h16, n_staticmethod := PySem.W.mg_none_of X G h17, n_abs := PySem.W.mg_none_of X G h18, n_repr := PySem.W.mg_none_of X G h19, n_ValueError := PySem.W.mg_none_of X G h20, m_LETTERS := ⟨_, PySem.W.mg_of X G h21⟩, m_MOST_LETTERS := ⟨_, PySem.W.mg_of X G h22⟩, m_World := PySem.W.mg_of X G h23, c_World := ⟨h24, h25, h26, h27⟩, y_World := ⟨h28, h29, h30, h31, kit_own h32 (by decide +kernel), kit_own h33 (by decide +kernel), kit_own h34 (by decide +kernel), kit_own h35 (by decide +kernel), kit_own h36 (by decide +kernel), kit_own h37 (by decide +kernel)⟩, s_World := h38, a_World_many := h39, a_World_partings := h40, k_World_LIMIT := ⟨_, ⟨h41, h42⟩, ⟨h43, ⟨_, rfl⟩⟩⟩, q_World_LIMIT := ⟨_, ⟨h44, ⟨_, rfl⟩, h45, by decide +kernel⟩⟩, i_World := initAtD_mk h46 h47 h48 h49 h50 h51 h52 h53 h54 (fun _ _ _ _ _ _ _ us its h1 h2 => match us, its, h1, h2 with | [_, _, _], [_], _, _ => ⟨_, rfl, rfl⟩), j_World := initD0_mk h55 h56 h57 h58 h59 h60 h61 h62 h63 h64 h65 h66 (by decide) (fun _ _ _ _ _ _ _ us its h1 h2 => match us, its, h1, h2 with | [_, _], [_], _, _ => ⟨_, rfl, rfl⟩), u_World_parted := staAt_mk h67 h68 h69 h70 h71 h72 h73 (fun _ _ _ _ _ _ us hl => match us, hl with | [_, _], _ => rfl), u_World_read := staAt_mk h74 h75 h76 h77 h78 h79 h80 (fun _ _ _ _ _ _ us hl => match us, hl with | [_], _ => rfl), t_World_eyes := methAt_mk h81 h82 h83 h84 h85 (fun _ _ _ _ _ _ us hl => match us, hl with | [_], _ => rfl), t_World_partings := methAt_mk h86 h87 h88 h89 h90 (fun _ _ _ _ _ _ us hl => match us, hl with | [_], _ => rfl), t_World_parting_named := methAt_mk h91 h92 h93 h94 h95 (fun _ _ _ _ _ _ us hl => match us, hl with | [_, _], _ => rfl), t_World_parting := methAt_mk h96 h97 h98 h99 h100 (fun _ _ _ _ _ _ us hl => match us, hl with | [_, _], _ => rfl), t_World_alike := methAt_mk h101 h102 h103 h104 h105 (fun _ _ _ _ _ _ us hl => match us, hl with | [_, _, _, _], _ => rfl), t_World_tells := methAt_mk h106 h107 h108 h109 h110 (fun _ _ _ _ _ _ us hl => match us, hl with | [_, _, _], _ => rfl), t_World_tied := methAt_mk h111 h112 h113 h114 h115 (fun _ _ _ _ _ _ us hl => match us, hl with | [_, _, _, _], _ => rfl), t_World_kept_to := methAt_mk h116 h117 h118 h119 h120 (fun _ _ _ _ _ _ us hl => match us, hl with | [_, _], _ => rfl), t_World_text := methAt_mk h121 h122 h123 h124 h125 (fun _ _ _ _ _ _ us hl => match us, hl with | [_], _ => rfl), t_World___add := methAt_mk h126 h127 h128 h129 h130 (fun _ _ _ _ _ _ us hl => match us, hl with | [_, _], _ => rfl), t_World___eq := methAt_mk h131 h132 h133 h134 h135 (fun _ _ _ _ _ _ us hl => match us, hl with | [_, _], _ => rfl), t_World___len := methAt_mk h136 h137 h138 h139 h140 (fun _ _ _ _ _ _ us hl => match us, hl with | [_], _ => rfl), t_World___str := methAt_mk h141 h142 h143 h144 h145 (fun _ _ _ _ _ _ us hl => match us, hl with | [_], _ => rfl), t_World___repr := methAt_mk h146 h147 h148 h149 h150 (fun _ _ _ _ _ _ us hl => match us, hl with | [_], _ => rfl), e_InvalidName := errAt_mk X G h151 h152 h153 h154 h155 h156 h157 h158 h159 h160 h161 h162 h163 (fun _ _ _ _ _ _ us hl => match us, hl with | [_, _], _ => rfl), a_InvalidName_value := h164, e_InvalidNumber := errAt_mk X G h165 h166 h167 h168 h169 h170 h171 h172 h173 h174 h175 h176 h177 (fun _ _ _ _ _ _ us hl => match us, hl with | [_, _], _ => rfl), a_InvalidNumber_value := h178, e_InvalidText := errAt_mk X G h179 h180 h181 h182 h183 h184 h185 h186 h187 h188 h189 h190 h191 (fun _ _ _ _ _ _ us hl => match us, hl with | [_, _], _ => rfl), a_InvalidText_at := h192, e_InvalidTie := errAt_mk X G h193 h194 h195 h196 h197 h198 h199 h200 h201 h202 h203 h204 h205 (fun _ _ _ _ _ _ us hl => match us, hl with | [_, _], _ => rfl), a_InvalidTie_at := h206, e_InvalidParting := errAt_mk X G h207 h208 h209 h210 h211 h212 h213 h214 h215 h216 h217 h218 h219 (fun _ _ _ _ _ _ us hl => match us, hl with | [_, _], _ => rfl), a_InvalidParting_value := h220, e_InvalidCase := errAt_mk X G h221 h222 h223 h224 h225 h226 h227 h228 h229 h230 h231 h232 h233 (fun _ _ _ _ _ _ us hl => match us, hl with | [_, _], _ => rfl), a_InvalidCase_value := h234, e_TooMany := errAt_mk X G h235 h236 h237 h238 h239 h240 h241 h242 h243 h244 h245 h246 h247 (fun _ _ _ _ _ _ us hl => match us, hl with | [_, _, _], _ => rfl), a_TooMany_what := h248, a_TooMany_most := h249, x_InvalidName_InvalidName := h250, x_InvalidNumber_InvalidName := h251, x_InvalidNumber_InvalidNumber := h252, x_InvalidTie_InvalidName := h253, x_InvalidTie_InvalidNumber := h254, x_InvalidTie_InvalidText := h255, x_InvalidTie_InvalidTie := h256, x_InvalidParting_InvalidName := h257, x_InvalidParting_InvalidNumber := h258, x_InvalidParting_InvalidText := h259, x_InvalidParting_InvalidTie := h260, x_InvalidParting_InvalidParting := h261, x_TooMany_InvalidName := h262, x_TooMany_InvalidNumber := h263, x_TooMany_InvalidText := h264, x_TooMany_InvalidTie := h265, x_TooMany_InvalidParting := h266, x_TooMany_InvalidCase := h267, x_TooMany_TooMany := h268, x_InvalidText_InvalidName := h269, x_InvalidText_InvalidNumber := h270, x_InvalidText_InvalidText := h271, x_InvalidText_TooMany := h272, x_InvalidCase_InvalidName := h273, x_InvalidCase_InvalidNumber := h274, x_InvalidCase_InvalidText := h275, x_InvalidCase_InvalidTie := h276, x_InvalidCase_InvalidParting := h277, x_InvalidCase_InvalidCase := h278, kw_int := h279, kw_list := h280, kw_str := h281, nfw_int := h282, nfw_list := h283, nfw_str := h284, f_wall := fnAt_mk X G h285 h286 h287 h288 (fun _ _ _ _ _ _ us hl => match us, hl with | [_], _ => rfl), f_is_name := fnAt_mk X G h289 h290 h291 h292 (fun _ _ _ _ _ _ us hl => match us, hl with | [_], _ => rfl), f_is_number := fnAt_mk X G h293 h294 h295 h296 (fun _ _ _ _ _ _ us hl => match us, hl with | [_, _, _], _ => rfl), f_is_parting := fnAt_mk X G h297 h298 h299 h300 (fun _ _ _ _ _ _ us hl => match us, hl with | [_], _ => rfl), f_is_item := fnAt_mk X G h301 h302 h303 h304 (fun _ _ _ _ _ _ us hl => match us, hl with | [_, _], _ => rfl), f_apart := fnAt_mk X G h305 h306 h307 h308 (fun _ _ _ _ _ _ us hl => match us, hl with | [_], _ => rfl), f_linked := fnAt_mk X G h309 h310 h311 h312 (fun _ _ _ _ _ _ us hl => match us, hl with | [_, _], _ => rfl), f_by_keys := fnAt_mk X G h313 h314 h315 h316 (fun _ _ _ _ _ _ us hl => match us, hl with | [_], _ => rfl), f_met := fnAt_mk X G h317 h318 h319 h320 (fun _ _ _ _ _ _ us hl => match us, hl with | [_], _ => rfl), f_joined := fnAt_mk X G h321 h322 h323 h324 (fun _ _ _ _ _ _ us hl => match us, hl with | [_], _ => rfl), f_within := fnAt_mk X G h325 h326 h327 h328 (fun _ _ _ _ _ _ us hl => match us, hl with | [_, _], _ => rfl), f_beside := fnAt_mk X G h329 h330 h331 h332 (fun _ _ _ _ _ _ us hl => match us, hl with | [_, _], _ => rfl), f_check_names := fnAt_mk X G h333 h334 h335 h336 (fun _ _ _ _ _ _ us hl => match us, hl with | [_], _ => rfl), f_check_cases := fnAt_mk X G h337 h338 h339 h340 (fun _ _ _ _ _ _ us hl => match us, hl with | [_, _], _ => rfl), f_check_many := fnAt_mk X G h341 h342 h343 h344 (fun _ _ _ _ _ _ us hl => match us, hl with | [_], _ => rfl), f_check_ties := fnAt_mk X G h345 h346 h347 h348 (fun _ _ _ _ _ _ us hl => match us, hl with | [_, _], _ => rfl), f_is_tie := fnAt_mk X G h349 h350 h351 h352 (fun _ _ _ _ _ _ us hl => match us, hl with | [_, _], _ => rfl), f_is_parting_to := fnAt_mk X G h353 h354 h355 h356 (fun _ _ _ _ _ _ us hl => match us, hl with | [_, _], _ => rfl), f_tied_partings := fnAt_mk X G h357 h358 h359 h360 (fun _ _ _ _ _ _ us hl => match us, hl with | [_, _], _ => rfl), f_counting := fnAt_mk X G h361 h362 h363 h364 (fun _ _ _ _ _ _ us hl => match us, hl with | [_, _], _ => rfl), f_read_many := fnAt_mk X G h365 h366 h367 h368 (fun _ _ _ _ _ _ us hl => match us, hl with | [_], _ => rfl), f_read_parting := fnAt_mk X G h369 h370 h371 h372 (fun _ _ _ _ _ _ us hl => match us, hl with | [_, _], _ => rfl), f_world_with := fnAt_mk X G h373 h374 h375 h376 (fun _ _ _ _ _ _ us hl => match us, hl with | [_, _], _ => rfl), f_law_bag := fnAt_mk X G h377 h378 h379 h380 (fun _ _ _ _ _ _ us hl => match us, hl with | [_], _ => rfl), f_law_draw := fnAt_mk X G h381 h382 h383 h384 (fun _ _ _ _ _ _ us hl => match us, hl with | [_, _], _ => rfl), f_law_of := fnAt_mk X G h385 h386 h387 h388 (fun _ _ _ _ _ _ us hl => match us, hl with | [_, _], _ => rfl), f_law_mixed := fnAt_mk X G h389 h390 h391 h392 (fun _ _ _ _ _ _ us hl => match us, hl with | [_, _], _ => rfl), f_law_same := fnAt_mk X G h393 h394 h395 h396 (fun _ _ _ _ _ _ us hl => match us, hl with | [_, _], _ => rfl), f_law_title := fnAt_mk X G h397 h398 h399 h400 (fun _ _ _ _ _ _ us hl => match us, hl with | [_, _], _ => rfl), f_law_titles := fnAt_mk X G h401 h402 h403 h404 (fun _ _ _ _ _ _ us hl => match us, hl with | [_, _], _ => rfl), f_law_alone := fnAt_mk X G h405 h406 h407 h408 (fun _ _ _ _ _ _ us hl => match us, hl with | [_], _ => rfl), f_law_merged := fnAt_mk X G h409 h410 h411 h412 (fun _ _ _ _ _ _ us hl => match us, hl with | [_, _], _ => rfl), f_law_views := fnAt_mk X G h413 h414 h415 h416 (fun _ _ _ _ _ _ us hl => match us, hl with | [_, _], _ => rfl), f_law_seen := fnAt_mk X G h417 h418 h419 h420 (fun _ _ _ _ _ _ us hl => match us, hl with | [_, _], _ => rfl), f_law_knots := fnAt_mk X G h421 h422 h423 h424 (fun _ _ _ _ _ _ us hl => match us, hl with | [_, _, _, _], _ => rfl), f_law_chapter := fnAt_mk X G h425 h426 h427 h428 (fun _ _ _ _ _ _ us hl => match us, hl with | [_, _], _ => rfl), f_law_world_so := fnAt_mk X G h429 h430 h431 h432 (fun _ _ _ _ _ _ us hl => match us, hl with | [_, _, _], _ => rfl), f_law_ways_so := fnAt_mk X G h433 h434 h435 h436 (fun _ _ _ _ _ _ us hl => match us, hl with | [_, _, _, _], _ => rfl), f_law_unlike_so := fnAt_mk X G h437 h438 h439 h440 (fun _ _ _ _ _ _ us hl => match us, hl with | [_, _, _, _, _], _ => rfl), f_law_copies_so := fnAt_mk X G h441 h442 h443 h444 (fun _ _ _ _ _ _ us hl => match us, hl with | [_, _, _], _ => rfl), f_law := fnAt_mk X G h445 h446 h447 h448 (fun _ _ _ _ _ _ us hl => match us, hl with | [_], _ => rfl) }⟩
theorem fin {l : PySem.W.OpenLaw} {w : World} {K : PySem.W.Frag} {mg : Str → Option Value} {fa : Addr} (T : ∃ A, Txt K mg A) (hmg : mg "law" = some (.ref fa)) :
    ∃ fd : FuncData, (∀ (s : Shared) (v : Value), BindsTo s fd ⟨[v], []⟩ [("_law_script", v)]) ∧ ∀ base : Heap, K.In base → base.Ns mainGlobals mg → FnOk l.prog w K mg base CX0 60 fa fd ["_law_script"] (spLaw K) := by
  obtain ⟨A, T⟩ := T
  obtain ⟨f, fd, F, hb, hm⟩ := T.f_law
  cases hmg.symm.trans hm
  refine ⟨fd, fun s v => ?_, fun base _ _ => ?_⟩
  · obtain ⟨oc, od, kV, doc, pm, an, cdv, ct, osl, rfl, lk, hcd⟩ := F.ex
    exact .of_eq rfl
  · obtain ⟨f2, fd2, hm2, F2, _, R⟩ := ok_law (P := l.prog) (w := w) (base := base) T
    cases hm.symm.trans hm2
    obtain ⟨oc, od, kV, doc, pm, an, cdv, ct, osl, rfl, lk, hcd⟩ := F.ex
    obtain ⟨oc2, od2, kV2, doc2, pm2, an2, cdv2, ct2, osl2, rfl, lk2, hcd2⟩ := F2.ex
    cases lk.symm.trans lk2
    exact R
end Eyes
open PySem PySem.W PyProof.Rows
set_option maxHeartbeats 0 in
theorem PySem.Challenge.cw_pooledeyes_k09_whole_worlds_from_ties_holds : PySem.Challenge.rw_pooledeyes_k09_whole_worlds_from_ties.Holds := by
  w_on; o_law; refine EyesHd.headq (by first | assumption | decide +kernel) ?hw ?hc; (case hw => w_witness2)
  delta EyesHd.hk0
  k_fill
  refine L2.walk_of (l := PySem.Challenge.rw_pooledeyes_k09_whole_worlds_from_ties) (n := 63) (k := 60) (x := "_law_script") (CX := fun _ => L2.CX0) (sp := fun w => Eyes.spLaw _) rfl (by decide) EyesHd.lawD_dfl ⟨rfl, by decide, by decide⟩ (fun w h Y => PySem.W.kIn_of Y) ?F (fun _ _ a ns hl _ hS => ⟨a, ns, rfl, hS, hl, fun _ => rfl⟩) (fun _ _ _ _ _ h => h)
  case F =>
    intro w mg fa h KX G hmg
    rw [EyesHd.lawD_name] at hmg
    refine' Eyes.fin (Eyes.txt_mk KX G ?h1 ?h2 ?h3 ?h4 ?h5 ?h6 ?h7 ?h8 ?h9 ?h10 ?h11 ?h12 ?h13 ?h14 ?h15 ?h16 ?h17 ?h18 ?h19 ?h20 ?h21 ?h22 ?h23 ?h24 ?h25 ?h26 ?h27 ?h28 ?h29 ?h30 ?h31 ?h32 ?h33 ?h34 ?h35 ?h36 ?h37 ?h38 ?h39 ?h40 ?h41 ?h42 ?h43 ?h44 ?h45 ?h46 ?h47 ?h48 ?h49 ?h50 ?h51 ?h52 ?h53 ?h54 ?h55 ?h56 ?h57 ?h58 ?h59 ?h60 ?h61 ?h62 ?h63 ?h64 ?h65 ?h66 ?h67 ?h68 ?h69 ?h70 ?h71 ?h72 ?h73 ?h74 ?h75 ?h76 ?h77 ?h78 ?h79 ?h80 ?h81 ?h82 ?h83 ?h84 ?h85 ?h86 ?h87 ?h88 ?h89 ?h90 ?h91 ?h92 ?h93 ?h94 ?h95 ?h96 ?h97 ?h98 ?h99 ?h100 ?h101 ?h102 ?h103 ?h104 ?h105 ?h106 ?h107 ?h108 ?h109 ?h110 ?h111 ?h112 ?h113 ?h114 ?h115 ?h116 ?h117 ?h118 ?h119 ?h120 ?h121 ?h122 ?h123 ?h124 ?h125 ?h126 ?h127 ?h128 ?h129 ?h130 ?h131 ?h132 ?h133 ?h134 ?h135 ?h136 ?h137 ?h138 ?h139 ?h140 ?h141 ?h142 ?h143 ?h144 ?h145 ?h146 ?h147 ?h148 ?h149 ?h150 ?h151 ?h152 ?h153 ?h154 ?h155 ?h156 ?h157 ?h158 ?h159 ?h160 ?h161 ?h162 ?h163 ?h164 ?h165 ?h166 ?h167 ?h168 ?h169 ?h170 ?h171 ?h172 ?h173 ?h174 ?h175 ?h176 ?h177 ?h178 ?h179 ?h180 ?h181 ?h182 ?h183 ?h184 ?h185 ?h186 ?h187 ?h188 ?h189 ?h190 ?h191 ?h192 ?h193 ?h194 ?h195 ?h196 ?h197 ?h198 ?h199 ?h200 ?h201 ?h202 ?h203 ?h204 ?h205 ?h206 ?h207 ?h208 ?h209 ?h210 ?h211 ?h212 ?h213 ?h214 ?h215 ?h216 ?h217 ?h218 ?h219 ?h220 ?h221 ?h222 ?h223 ?h224 ?h225 ?h226 ?h227 ?h228 ?h229 ?h230 ?h231 ?h232 ?h233 ?h234 ?h235 ?h236 ?h237 ?h238 ?h239 ?h240 ?h241 ?h242 ?h243 ?h244 ?h245 ?h246 ?h247 ?h248 ?h249 ?h250 ?h251 ?h252 ?h253 ?h254 ?h255 ?h256 ?h257 ?h258 ?h259 ?h260 ?h261 ?h262 ?h263 ?h264 ?h265 ?h266 ?h267 ?h268 ?h269 ?h270 ?h271 ?h272 ?h273 ?h274 ?h275 ?h276 ?h277 ?h278 ?h279 ?h280 ?h281 ?h282 ?h283 ?h284 ?h285 ?h286 ?h287 ?h288 ?h289 ?h290 ?h291 ?h292 ?h293 ?h294 ?h295 ?h296 ?h297 ?h298 ?h299 ?h300 ?h301 ?h302 ?h303 ?h304 ?h305 ?h306 ?h307 ?h308 ?h309 ?h310 ?h311 ?h312 ?h313 ?h314 ?h315 ?h316 ?h317 ?h318 ?h319 ?h320 ?h321 ?h322 ?h323 ?h324 ?h325 ?h326 ?h327 ?h328 ?h329 ?h330 ?h331 ?h332 ?h333 ?h334 ?h335 ?h336 ?h337 ?h338 ?h339 ?h340 ?h341 ?h342 ?h343 ?h344 ?h345 ?h346 ?h347 ?h348 ?h349 ?h350 ?h351 ?h352 ?h353 ?h354 ?h355 ?h356 ?h357 ?h358 ?h359 ?h360 ?h361 ?h362 ?h363 ?h364 ?h365 ?h366 ?h367 ?h368 ?h369 ?h370 ?h371 ?h372 ?h373 ?h374 ?h375 ?h376 ?h377 ?h378 ?h379 ?h380 ?h381 ?h382 ?h383 ?h384 ?h385 ?h386 ?h387 ?h388 ?h389 ?h390 ?h391 ?h392 ?h393 ?h394 ?h395 ?h396 ?h397 ?h398 ?h399 ?h400 ?h401 ?h402 ?h403 ?h404 ?h405 ?h406 ?h407 ?h408 ?h409 ?h410 ?h411 ?h412 ?h413 ?h414 ?h415 ?h416 ?h417 ?h418 ?h419 ?h420 ?h421 ?h422 ?h423 ?h424 ?h425 ?h426 ?h427 ?h428 ?h429 ?h430 ?h431 ?h432 ?h433 ?h434 ?h435 ?h436 ?h437 ?h438 ?h439 ?h440 ?h441 ?h442 ?h443 ?h444 ?h445 ?h446 ?h447 ?h448) hmg
    (case h1 => k_is); (case h2 => k_is); (case h3 => k_is); (case h4 => k_is); (case h5 => k_is); (case h6 => k_is)
    (case h7 => k_is); (case h8 => k_is); (case h9 => k_is); (case h10 => k_is); (case h11 => k_is); (case h12 => k_is)
    (case h13 => k_is); (case h14 => k_is); (case h15 => k_is); (case h16 => k_is); (case h17 => k_is); (case h18 => k_is)
    (case h19 => k_is); (case h20 => k_is); (case h21 => k_is); (case h22 => k_is); (case h23 => k_is); (case h24 => k_is)
    (case h25 => k_is); (case h26 => k_is); (case h27 => k_is); (case h28 => k_is); (case h29 => k_is); (case h30 => k_is)
    (case h31 => k_is); (case h32 => k_is); (case h33 => k_is); (case h34 => k_is); (case h35 => k_is); (case h36 => k_is)
    (case h37 => k_is); (case h38 => k_is); (case h39 => k_is); (case h40 => k_is); (case h41 => k_is); (case h42 => k_is)
    (case h43 => k_is); (case h44 => k_is); (case h45 => k_is); (case h46 => k_is); (case h47 => k_is); (case h48 => k_is)
    (case h49 => k_is); (case h50 => k_is); (case h51 => k_is); (case h52 => k_is); (case h53 => k_is); (case h54 => rfl)
    (case h55 => k_is); (case h56 => k_is); (case h57 => k_is); (case h58 => k_is); (case h59 => k_is); (case h60 => k_is)
    (case h61 => k_is); (case h62 => k_is); (case h63 => rfl); (case h64 => k_is); (case h65 => rfl); (case h66 => rfl)
    (case h67 => k_is); (case h68 => k_is); (case h69 => k_is); (case h70 => k_is); (case h71 => k_is); (case h72 => k_is)
    (case h73 => k_is); (case h74 => k_is); (case h75 => k_is); (case h76 => k_is); (case h77 => k_is); (case h78 => k_is)
    (case h79 => k_is); (case h80 => k_is); (case h81 => k_is); (case h82 => k_is); (case h83 => k_is); (case h84 => k_is)
    (case h85 => k_is); (case h86 => k_is); (case h87 => k_is); (case h88 => k_is); (case h89 => k_is); (case h90 => k_is)
    (case h91 => k_is); (case h92 => k_is); (case h93 => k_is); (case h94 => k_is); (case h95 => k_is); (case h96 => k_is)
    (case h97 => k_is); (case h98 => k_is); (case h99 => k_is); (case h100 => k_is); (case h101 => k_is); (case h102 => k_is)
    (case h103 => k_is); (case h104 => k_is); (case h105 => k_is); (case h106 => k_is); (case h107 => k_is); (case h108 => k_is)
    (case h109 => k_is); (case h110 => k_is); (case h111 => k_is); (case h112 => k_is); (case h113 => k_is); (case h114 => k_is)
    (case h115 => k_is); (case h116 => k_is); (case h117 => k_is); (case h118 => k_is); (case h119 => k_is); (case h120 => k_is)
    (case h121 => k_is); (case h122 => k_is); (case h123 => k_is); (case h124 => k_is); (case h125 => k_is); (case h126 => k_is)
    (case h127 => k_is); (case h128 => k_is); (case h129 => k_is); (case h130 => k_is); (case h131 => k_is); (case h132 => k_is)
    (case h133 => k_is); (case h134 => k_is); (case h135 => k_is); (case h136 => k_is); (case h137 => k_is); (case h138 => k_is)
    (case h139 => k_is); (case h140 => k_is); (case h141 => k_is); (case h142 => k_is); (case h143 => k_is); (case h144 => k_is)
    (case h145 => k_is); (case h146 => k_is); (case h147 => k_is); (case h148 => k_is); (case h149 => k_is); (case h150 => k_is)
    (case h151 => k_is); (case h152 => k_is); (case h153 => kernel_rfl); (case h154 => k_is); (case h155 => k_is); (case h156 => k_is)
    (case h157 => k_is); (case h158 => kernel_rfl); (case h159 => k_is); (case h160 => k_is); (case h161 => k_is); (case h162 => k_is)
    (case h163 => k_is); (case h164 => k_is); (case h165 => k_is); (case h166 => k_is); (case h167 => kernel_rfl); (case h168 => k_is)
    (case h169 => k_is); (case h170 => k_is); (case h171 => k_is); (case h172 => kernel_rfl); (case h173 => k_is); (case h174 => k_is)
    (case h175 => k_is); (case h176 => k_is); (case h177 => k_is); (case h178 => k_is); (case h179 => k_is); (case h180 => k_is)
    (case h181 => kernel_rfl); (case h182 => k_is); (case h183 => k_is); (case h184 => k_is); (case h185 => k_is); (case h186 => kernel_rfl)
    (case h187 => k_is); (case h188 => k_is); (case h189 => k_is); (case h190 => k_is); (case h191 => k_is); (case h192 => k_is)
    (case h193 => k_is); (case h194 => k_is); (case h195 => kernel_rfl); (case h196 => k_is); (case h197 => k_is); (case h198 => k_is)
    (case h199 => k_is); (case h200 => kernel_rfl); (case h201 => k_is); (case h202 => k_is); (case h203 => k_is); (case h204 => k_is)
    (case h205 => k_is); (case h206 => k_is); (case h207 => k_is); (case h208 => k_is); (case h209 => kernel_rfl); (case h210 => k_is)
    (case h211 => k_is); (case h212 => k_is); (case h213 => k_is); (case h214 => kernel_rfl); (case h215 => k_is); (case h216 => k_is)
    (case h217 => k_is); (case h218 => k_is); (case h219 => k_is); (case h220 => k_is); (case h221 => k_is); (case h222 => k_is)
    (case h223 => kernel_rfl); (case h224 => k_is); (case h225 => k_is); (case h226 => k_is); (case h227 => k_is); (case h228 => kernel_rfl)
    (case h229 => k_is); (case h230 => k_is); (case h231 => k_is); (case h232 => k_is); (case h233 => k_is); (case h234 => k_is)
    (case h235 => k_is); (case h236 => k_is); (case h237 => kernel_rfl); (case h238 => k_is); (case h239 => k_is); (case h240 => k_is)
    (case h241 => k_is); (case h242 => kernel_rfl); (case h243 => k_is); (case h244 => k_is); (case h245 => k_is); (case h246 => k_is)
    (case h247 => k_is); (case h248 => k_is); (case h249 => k_is); (case h250 => kernel_rfl); (case h251 => kernel_rfl); (case h252 => kernel_rfl)
    (case h253 => kernel_rfl); (case h254 => kernel_rfl); (case h255 => kernel_rfl); (case h256 => kernel_rfl); (case h257 => kernel_rfl); (case h258 => kernel_rfl)
    (case h259 => kernel_rfl); (case h260 => kernel_rfl); (case h261 => kernel_rfl); (case h262 => kernel_rfl); (case h263 => kernel_rfl); (case h264 => kernel_rfl)
    (case h265 => kernel_rfl); (case h266 => kernel_rfl); (case h267 => kernel_rfl); (case h268 => kernel_rfl); (case h269 => kernel_rfl); (case h270 => kernel_rfl)
    (case h271 => kernel_rfl); (case h272 => kernel_rfl); (case h273 => kernel_rfl); (case h274 => kernel_rfl); (case h275 => kernel_rfl); (case h276 => kernel_rfl)
    (case h277 => kernel_rfl); (case h278 => kernel_rfl); (case h279 => kernel_rfl); (case h280 => kernel_rfl); (case h281 => kernel_rfl); (case h282 => kernel_rfl)
    (case h283 => kernel_rfl); (case h284 => kernel_rfl); (case h285 => k_is); (case h286 => k_is); (case h287 => k_is); (case h288 => k_is)
    (case h289 => k_is); (case h290 => k_is); (case h291 => k_is); (case h292 => k_is); (case h293 => k_is); (case h294 => k_is)
    (case h295 => k_is); (case h296 => k_is); (case h297 => k_is); (case h298 => k_is); (case h299 => k_is); (case h300 => k_is)
    (case h301 => k_is); (case h302 => k_is); (case h303 => k_is); (case h304 => k_is); (case h305 => k_is); (case h306 => k_is)
    (case h307 => k_is); (case h308 => k_is); (case h309 => k_is); (case h310 => k_is); (case h311 => k_is); (case h312 => k_is)
    (case h313 => k_is); (case h314 => k_is); (case h315 => k_is); (case h316 => k_is); (case h317 => k_is); (case h318 => k_is)
    (case h319 => k_is); (case h320 => k_is); (case h321 => k_is); (case h322 => k_is); (case h323 => k_is); (case h324 => k_is)
    (case h325 => k_is); (case h326 => k_is); (case h327 => k_is); (case h328 => k_is); (case h329 => k_is); (case h330 => k_is)
    (case h331 => k_is); (case h332 => k_is); (case h333 => k_is); (case h334 => k_is); (case h335 => k_is); (case h336 => k_is)
    (case h337 => k_is); (case h338 => k_is); (case h339 => k_is); (case h340 => k_is); (case h341 => k_is); (case h342 => k_is)
    (case h343 => k_is); (case h344 => k_is); (case h345 => k_is); (case h346 => k_is); (case h347 => k_is); (case h348 => k_is)
    (case h349 => k_is); (case h350 => k_is); (case h351 => k_is); (case h352 => k_is); (case h353 => k_is); (case h354 => k_is)
    (case h355 => k_is); (case h356 => k_is); (case h357 => k_is); (case h358 => k_is); (case h359 => k_is); (case h360 => k_is)
    (case h361 => k_is); (case h362 => k_is); (case h363 => k_is); (case h364 => k_is); (case h365 => k_is); (case h366 => k_is)
    (case h367 => k_is); (case h368 => k_is); (case h369 => k_is); (case h370 => k_is); (case h371 => k_is); (case h372 => k_is)
    (case h373 => k_is); (case h374 => k_is); (case h375 => k_is); (case h376 => k_is); (case h377 => k_is); (case h378 => k_is)
    (case h379 => k_is); (case h380 => k_is); (case h381 => k_is); (case h382 => k_is); (case h383 => k_is); (case h384 => k_is)
    (case h385 => k_is); (case h386 => k_is); (case h387 => k_is); (case h388 => k_is); (case h389 => k_is); (case h390 => k_is)
    (case h391 => k_is); (case h392 => k_is); (case h393 => k_is); (case h394 => k_is); (case h395 => k_is); (case h396 => k_is)
    (case h397 => k_is); (case h398 => k_is); (case h399 => k_is); (case h400 => k_is); (case h401 => k_is); (case h402 => k_is)
    (case h403 => k_is); (case h404 => k_is); (case h405 => k_is); (case h406 => k_is); (case h407 => k_is); (case h408 => k_is)
    (case h409 => k_is); (case h410 => k_is); (case h411 => k_is); (case h412 => k_is); (case h413 => k_is); (case h414 => k_is)
    (case h415 => k_is); (case h416 => k_is); (case h417 => k_is); (case h418 => k_is); (case h419 => k_is); (case h420 => k_is)
    (case h421 => k_is); (case h422 => k_is); (case h423 => k_is); (case h424 => k_is); (case h425 => k_is); (case h426 => k_is)
    (case h427 => k_is); (case h428 => k_is); (case h429 => k_is); (case h430 => k_is); (case h431 => k_is); (case h432 => k_is)
    (case h433 => k_is); (case h434 => k_is); (case h435 => k_is); (case h436 => k_is); (case h437 => k_is); (case h438 => k_is)
    (case h439 => k_is); (case h440 => k_is); (case h441 => k_is); (case h442 => k_is); (case h443 => k_is); (case h444 => k_is)
    (case h445 => k_is); (case h446 => k_is); (case h447 => k_is); (case h448 => k_is)

